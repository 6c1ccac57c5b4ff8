package net_test

import (
	"math"
	"testing"

	"waymark/api"
	"waymark/net"
)

// P20.1: Do, Tick's fates aside.

// seq answers the number of the LSP that a router tells of itself at level 2.
func seq(t *testing.T, n *net.Net, i int) uint32 {
	t.Helper()
	for _, entry := range entries(t, n, i, api.L2) {
		if entry.ID == id(i, 0) {
			return entry.Seq
		}
	}
	t.Fatalf("the router %d tells nothing", i)
	return 0
}

// The chapter's example: behind 12 ticks each has the other's prefix; cut, it is gone at the next tick.
func TestExample(t *testing.T) {
	n := inARow(t, api.L2, 2)
	for range 12 {
		tick(t, n, all(1)...)
	}
	holds(t, n, api.L2, 1, 1)
	knows(t, n, 1, 1)
	n = inARow(t, api.L2, 2)
	rest(t, n, 12)
	agrees(t, n, true, true)
	for i := range 2 {
		want := api.Route{Prefix: of(1 - i), Kind: api.RouteL2, Metric: 11, Hops: []api.Hop{{Circuit: 1 - i, To: sys(1 - i)}}}
		r, ok, e := n.Find(i, 4, [16]byte{10, byte(2 - i), 9, 9})
		if !ok || e != api.OK || !same(r, want) {
			t.Errorf("Find = %v, %t, %d; want %v", r, ok, e, want)
		}
	}
	does(t, n, net.Event{Kind: net.Cut}, api.OK)
	knows(t, n, 2, 2)
	rest(t, n, 1)
	knows(t, n, 1, 1)
}

func TestCutAndMend(t *testing.T) {
	n := inARow(t, api.L2, 4)
	rest(t, n, 20)
	knows(t, n, 4, 4, 4, 4)
	does(t, n, net.Event{Kind: net.Mend, N: 1}, api.ErrState)
	does(t, n, net.Event{Kind: net.Cut, N: 1}, api.OK)
	does(t, n, net.Event{Kind: net.Cut, N: 1}, api.ErrState)
	isJoined(t, n, net.Cable{A: 1, CA: 1, B: 2, CB: 0}, false)
	rest(t, n, 10)
	knows(t, n, 2, 2, 2, 2)
	does(t, n, net.Event{Kind: net.Mend, N: 1}, api.OK)
	does(t, n, net.Event{Kind: net.Mend, N: 1}, api.ErrState)
	isJoined(t, n, net.Cable{A: 1, CA: 1, B: 2, CB: 0}, true)
	rest(t, n, 20)
	knows(t, n, 4, 4, 4, 4)
	agrees(t, n, true, true)
}

// Both ends of a cable that is cut know nobody any more: cut and mended within a tick it isn't as it was.
func TestCutMakesBothForget(t *testing.T) {
	n := inARow(t, api.L2, 2)
	rest(t, n, 12)
	does(t, n, net.Event{Kind: net.Cut}, api.OK)
	does(t, n, net.Event{Kind: net.Mend}, api.OK)
	rest(t, n, 1)
	knows(t, n, 1, 1)
	rest(t, n, 12)
	knows(t, n, 2, 2)
}

// Over a cable that was cut ahead of the first tick nothing goes.
func TestCutAtOnce(t *testing.T) {
	n := inARow(t, api.L2, 2)
	does(t, n, net.Event{Kind: net.Cut}, api.OK)
	rest(t, n, 40)
	holds(t, n, api.L2, 1, 1)
	does(t, n, net.Event{Kind: net.Mend}, api.OK)
	rest(t, n, 12)
	holds(t, n, api.L2, 2, 2)
}

// Who is restarted has lost all, and tells of itself from 1 on; the others know of it only by what comes.
func TestRestart(t *testing.T) {
	n := inARow(t, api.L2, 3)
	rest(t, n, 20)
	does(t, n, net.Event{Kind: net.Restart, N: 1}, api.OK)
	holds(t, n, api.L2, 3, 1, 3)
	knows(t, n, 3, 1, 3)
	if s := seq(t, n, 1); s != 1 {
		t.Errorf("it tells %d", s)
	}
	rest(t, n, 1)
	holds(t, n, api.L2, 3, 1, 3)
	knows(t, n, 3, 1, 3)
	rest(t, n, 25)
	holds(t, n, api.L2, 3, 3, 3)
	knows(t, n, 3, 3, 3)
	agrees(t, n, true, true)
}

// It is linked over the cables that are up, and over no other one.
func TestRestartLinksWhatIsUp(t *testing.T) {
	n := inARow(t, api.L2, 3)
	rest(t, n, 12)
	does(t, n, net.Event{Kind: net.Cut, N: 0}, api.OK)
	does(t, n, net.Event{Kind: net.Restart, N: 1}, api.OK)
	does(t, n, net.Event{Kind: net.Restart, N: 0}, api.OK)
	isJoined(t, n, net.Cable{A: 0, CA: 1, B: 1, CB: 0}, false)
	isJoined(t, n, net.Cable{A: 1, CA: 1, B: 2, CB: 0}, true)
	rest(t, n, 30)
	knows(t, n, 1, 2, 2)
	does(t, n, net.Event{Kind: net.Mend, N: 0}, api.OK)
	rest(t, n, 30)
	knows(t, n, 3, 3, 3)
}

func TestConfigure(t *testing.T) {
	n := inARow(t, api.L2, 2)
	rest(t, n, 12)
	c := conf(1, api.L2, 2)
	c.Owns = append(c.Owns, api.Own{Prefix: of(7), Metric: 5, Level: api.L2})
	does(t, n, net.Event{Kind: net.Configure, N: 1, Conf: c}, api.OK)
	knows(t, n, 2, 2)
	rest(t, n, 20)
	knows(t, n, 3, 3)
	// By that configuration it is made anew.
	does(t, n, net.Event{Kind: net.Restart, N: 1}, api.OK)
	knows(t, n, 3, 2)
	rest(t, n, 30)
	knows(t, n, 3, 3)
}

// A configuration that is refused is not the one by which a router is made anew.
func TestConfigureRefused(t *testing.T) {
	n := inARow(t, api.L2, 2)
	rest(t, n, 12)
	c := conf(1, api.Both, 2)
	c.Owns = nil
	does(t, n, net.Event{Kind: net.Configure, N: 1, Conf: c}, api.ErrState)
	does(t, n, net.Event{Kind: net.Restart, N: 1}, api.OK)
	knows(t, n, 2, 1)
	rest(t, n, 30)
	knows(t, n, 2, 2)
}

// What is handed in is neither changed nor kept.
func TestDoKeepsNothing(t *testing.T) {
	n := inARow(t, api.L2, 2)
	c, was := conf(1, api.L2, 2), conf(1, api.L2, 2)
	c.Keys = []api.Key{{ID: 1, Secret: []byte("secret")}}
	was.Keys = []api.Key{{ID: 1, Secret: []byte("secret")}}
	does(t, n, net.Event{Kind: net.Configure, N: 1, Conf: c}, api.OK)
	c.Sys, was.Sys = sys(0), sys(0)
	c.Owns[0].Prefix, was.Owns[0].Prefix = of(0), of(0)
	does(t, n, net.Event{Kind: net.Configure, N: 0, Conf: c}, api.OK)
	if !same(c, was) {
		t.Errorf("what was handed in became %v", c)
	}
	spoil([]api.Config{c})
	rest(t, n, 12)
	holds(t, n, api.L2, 2, 2)
	for i := range 2 {
		does(t, n, net.Event{Kind: net.Restart, N: i}, api.OK)
		rest(t, n, 30)
		holds(t, n, api.L2, 2, 2)
		agrees(t, n, true, true)
	}
	fates := all(4)
	tick(t, n, fates[:50]...)
	for _, f := range fates {
		if f != (net.Fate{How: 4}) {
			t.Fatalf("a fate became %v", f)
		}
	}
}

func TestDoErrors(t *testing.T) {
	n, twin := inARow(t, api.L2, 3), inARow(t, api.L2, 3)
	rest(t, n, 12)
	rest(t, twin, 12)
	many := make([]net.Fate, api.MaxEvents+1)
	for _, kind := range []byte{0, 6, 7, 255} {
		does(t, n, net.Event{Kind: kind}, api.ErrArg)
		does(t, n, net.Event{Kind: kind, Fates: many}, api.ErrArg)
	}
	for kind, count := range map[byte]int{net.Cut: 2, net.Mend: 2, net.Restart: 3, net.Configure: 3} {
		for _, i := range []int{-1, count, math.MinInt, math.MaxInt} {
			does(t, n, net.Event{Kind: kind, N: i, Conf: conf(0, api.L2, 2)}, api.ErrArg)
			does(t, n, net.Event{Kind: kind, N: i, Fates: many}, api.ErrArg)
		}
	}
	for kind := byte(net.Tick); kind <= net.Configure; kind++ {
		does(t, n, net.Event{Kind: kind, Fates: many, Conf: conf(0, api.L2, 2)}, api.ErrLong)
	}
	does(t, n, net.Event{Kind: net.Mend}, api.ErrState)
	for i := range 3 {
		for what, turn := range map[api.Errno]func(*api.Config){
			api.ErrArg:    func(c *api.Config) { c.Level = 0 },
			api.ErrLong:   func(c *api.Config) { c.Host = string(make([]byte, 64)) },
			api.ErrForm:   func(c *api.Config) { c.Areas = nil },
			api.ErrExists: func(c *api.Config) { c.Owns = append(c.Owns, c.Owns...) },
			api.ErrState:  func(c *api.Config) { c.Sys = sys((i + 1) % 3) },
		} {
			c := conf(i, api.L2, 2)
			turn(&c)
			does(t, n, net.Event{Kind: net.Configure, N: i, Conf: c}, what)
			does(t, n, net.Event{Kind: net.Configure, N: i, Conf: c, Fates: many}, min(what, api.ErrLong))
		}
	}
	alike(t, n, twin)
	rest(t, n, 20)
	rest(t, twin, 20)
	alike(t, n, twin)
}

// What an event of another kind has beside isn't looked at.
func TestDoLooksAtNothingElse(t *testing.T) {
	n := inARow(t, api.L2, 2)
	does(t, n, net.Event{Kind: net.Tick, N: -9}, api.OK)
	does(t, n, net.Event{Kind: net.Tick, N: math.MaxInt, Fates: make([]net.Fate, api.MaxEvents)}, api.OK)
	does(t, n, net.Event{Kind: net.Cut, Fates: all(1)}, api.OK)
	does(t, n, net.Event{Kind: net.Mend, Conf: api.Config{Level: -1}}, api.OK)
	does(t, n, net.Event{Kind: net.Restart, N: 1, Fates: make([]net.Fate, api.MaxEvents)}, api.OK)
	does(t, n, net.Event{Kind: net.Configure, N: 1, Conf: conf(1, api.L2, 2), Fates: all(3)}, api.OK)
	rest(t, n, 12)
	knows(t, n, 2, 2)
}
