package net_test

import (
	"math"
	"slices"
	"testing"

	"waymark/api"
	"waymark/net"
)

// P20.1: New.

// full answers as many routers and cables as there may be: each circuit is used.
func full() ([]api.Config, []net.Cable) {
	var confs []api.Config
	var cables []net.Cable
	for i := range api.MaxRouters {
		confs = append(confs, conf(i, api.L2, api.MaxCircuits))
		for k := range api.MaxCircuits / 2 {
			cables = append(cables, net.Cable{A: i, CA: k, B: (i + k + 1) % api.MaxRouters, CB: 4 + k})
		}
	}
	return confs, cables
}

func TestNew(t *testing.T) {
	n := build(t, []api.Config{conf(0, api.L1, 0)}, nil)
	if n.Count() != 1 {
		t.Errorf("Count = %d", n.Count())
	}
	rest(t, n, 12)
	knows(t, n, 1)
	confs, cables := full()
	n = build(t, confs, cables)
	if n.Count() != api.MaxRouters {
		t.Errorf("Count = %d", n.Count())
	}
	for _, c := range cables {
		isJoined(t, n, c, true)
	}
	rest(t, n, 20)
	agrees(t, n, true, true)
	for i := range confs {
		if list := routes(t, n, i, 0); len(list) != api.MaxRouters {
			t.Errorf("the router %d has the routes %v", i, list)
		}
	}
}

// Over all cables the routers are linked from the beginning: Init at 3, Up at 6, and at 7 they tell one another all.
func TestNewLinks(t *testing.T) {
	n := inARow(t, api.L2, 3)
	rest(t, n, 5)
	agrees(t, n, true, true)
	rest(t, n, 1)
	agrees(t, n, true, false)
	holds(t, n, api.L2, 1, 1, 1)
	rest(t, n, 1)
	holds(t, n, api.L2, 2, 3, 2)
	rest(t, n, 1)
	holds(t, n, api.L2, 3, 3, 3)
	agrees(t, n, true, true)
}

// A cable may join two circuits of one router.
func TestNewOfOneRouterAlone(t *testing.T) {
	c := net.Cable{A: 0, CA: 1, B: 0, CB: 0}
	n := build(t, []api.Config{conf(0, api.Both, 2)}, []net.Cable{c})
	isJoined(t, n, c, true)
	rest(t, n, 30)
	agrees(t, n, true, true)
	knows(t, n, 1)
	does(t, n, net.Event{Kind: net.Cut}, api.OK)
	isJoined(t, n, c, false)
	does(t, n, net.Event{Kind: net.Restart}, api.OK)
	does(t, n, net.Event{Kind: net.Mend}, api.OK)
	rest(t, n, 30)
	knows(t, n, 1)
}

// fault is what makes routers and cables be no net, and the error that it makes.
type fault struct {
	what string
	turn func([]api.Config, []net.Cable) ([]api.Config, []net.Cable)
	e    api.Errno
}

// turned answers a turn of the first router and the first cable.
func turned(turn func(*api.Config, *net.Cable)) func([]api.Config, []net.Cable) ([]api.Config, []net.Cable) {
	return func(confs []api.Config, cables []net.Cable) ([]api.Config, []net.Cable) {
		turn(&confs[0], &cables[0])
		return confs, cables
	}
}

func faults() []fault {
	return []fault{
		{"no routers", func(confs []api.Config, cables []net.Cable) ([]api.Config, []net.Cable) { return nil, nil }, api.ErrArg},
		{"too many routers", func(confs []api.Config, cables []net.Cable) ([]api.Config, []net.Cable) {
			for i := len(confs); i <= api.MaxRouters; i++ {
				confs = append(confs, conf(i, api.L1, 0))
			}
			return confs, cables
		}, api.ErrArg},
		{"far too many routers", func(confs []api.Config, cables []net.Cable) ([]api.Config, []net.Cable) {
			return slices.Repeat(confs, 1000), cables
		}, api.ErrArg},
		{"A -1", turned(func(c *api.Config, k *net.Cable) { k.A = -1 }), api.ErrArg},
		{"A 3", turned(func(c *api.Config, k *net.Cable) { k.A = 3 }), api.ErrArg},
		{"B the least", turned(func(c *api.Config, k *net.Cable) { k.B = math.MinInt }), api.ErrArg},
		{"B the greatest", turned(func(c *api.Config, k *net.Cable) { k.B = math.MaxInt }), api.ErrArg},
		{"CA -1", turned(func(c *api.Config, k *net.Cable) { k.CA = -1 }), api.ErrArg},
		{"CA 2", turned(func(c *api.Config, k *net.Cable) { k.CA = 2 }), api.ErrArg},
		{"CB 2", turned(func(c *api.Config, k *net.Cable) { k.CB = 2 }), api.ErrArg},
		{"CB the greatest", turned(func(c *api.Config, k *net.Cable) { k.CB = math.MaxInt }), api.ErrArg},
		{"one link less", turned(func(c *api.Config, k *net.Cable) { c.Links = c.Links[:1] }), api.ErrArg},
		{"the last cable's B", func(confs []api.Config, cables []net.Cable) ([]api.Config, []net.Cable) {
			cables[len(cables)-1].B = 3
			return confs, cables
		}, api.ErrArg},
		{"a level", turned(func(c *api.Config, k *net.Cable) { c.Level = 0 }), api.ErrArg},
		{"a mesh", turned(func(c *api.Config, k *net.Cable) { c.Links[1].Mesh = -2 }), api.ErrArg},
		{"too many cables", func(confs []api.Config, cables []net.Cable) ([]api.Config, []net.Cable) {
			return confs, append(cables, slices.Repeat(cables[:1], 65-len(cables))...)
		}, api.ErrLong},
		{"a host", turned(func(c *api.Config, k *net.Cable) { c.Host = string(make([]byte, 64)) }), api.ErrLong},
		{"no areas", turned(func(c *api.Config, k *net.Cable) { c.Areas = nil }), api.ErrForm},
		{"the last router's area", func(confs []api.Config, cables []net.Cable) ([]api.Config, []net.Cable) {
			confs[len(confs)-1].Areas = [][]byte{nil}
			return confs, cables
		}, api.ErrForm},
		{"owns of one prefix", turned(func(c *api.Config, k *net.Cable) { c.Owns = append(c.Owns, c.Owns[0]) }), api.ErrExists},
		{"routers of one name", turned(func(c *api.Config, k *net.Cable) { c.Sys = sys(2) }), api.ErrExists},
		{"a circuit of two cables", turned(func(c *api.Config, k *net.Cable) { k.B, k.CB = 2, 0 }), api.ErrExists},
		{"a circuit with itself", turned(func(c *api.Config, k *net.Cable) { k.B, k.CB = k.A, k.CA }), api.ErrExists},
		{"a cable twice", func(confs []api.Config, cables []net.Cable) ([]api.Config, []net.Cable) {
			return confs, append(cables, cables[0])
		}, api.ErrExists},
		{"a cable turned round", func(confs []api.Config, cables []net.Cable) ([]api.Config, []net.Cable) {
			c := cables[0]
			return confs, append(cables, net.Cable{A: c.B, CA: c.CB, B: c.A, CB: c.CA})
		}, api.ErrExists},
		{"as many cables as may be", func(confs []api.Config, cables []net.Cable) ([]api.Config, []net.Cable) {
			return confs, append(cables, slices.Repeat(cables[:1], 64-len(cables))...)
		}, api.ErrExists},
	}
}

// refused looks at what New answers of what is no net.
func refused(t *testing.T, what string, confs []api.Config, cables []net.Cable, want api.Errno) {
	t.Helper()
	if n, e := net.New(confs, cables); n != nil || e != want {
		t.Errorf("New with %s = %v, %d; want %d", what, n, e, want)
	}
}

func TestNewErrors(t *testing.T) {
	for _, f := range faults() {
		confs, cables := f.turn(row(api.L2, 3))
		refused(t, f.what, confs, cables, f.e)
	}
}

// Of several faults the least error is answered, whichever router or cable has it.
func TestNewLeastError(t *testing.T) {
	confs, cables := row(api.L2, 3)
	confs[0].Owns = append(confs[0].Owns, confs[0].Owns[0])
	refused(t, "two owns", confs, cables, api.ErrExists)
	confs[1].Areas = nil
	refused(t, "no areas", confs, cables, api.ErrForm)
	confs[2].Host = string(make([]byte, 64))
	refused(t, "a host", confs, cables, api.ErrLong)
	refused(t, "a host, and too many cables", confs, append(cables, make([]net.Cable, 65)...), api.ErrLong)
	refused(t, "a cable's circuit", confs, append(cables, net.Cable{CA: 2}), api.ErrArg)
	confs[1].Level = 4
	refused(t, "a level", confs, cables, api.ErrArg)
	// A circuit that only a router with too many links has.
	confs, cables = row(api.L2, 2)
	confs[0].Links = slices.Repeat(confs[0].Links, 5)
	cables[0].CA = 9
	refused(t, "too many links", confs, cables, api.ErrLong)
}

// What is handed in is neither changed nor kept.
func TestNewKeepsNothing(t *testing.T) {
	rich := func() ([]api.Config, []net.Cable) {
		confs, cables := row(api.Both, 2)
		for i := range confs {
			confs[i].Leak = []api.Prefix{{Fam: 4}}
			confs[i].Keys = []api.Key{{ID: 1, Secret: []byte("secret")}}
		}
		return confs, cables
	}
	confs, cables := rich()
	n := build(t, confs, cables)
	was, ends := rich()
	if !same(confs, was) || !same(cables, ends) {
		t.Errorf("what was handed in became %v, %v", confs, cables)
	}
	twin := build(t, was, ends)
	spoil(confs)
	clear(cables)
	for _, x := range []*net.Net{n, twin} {
		rest(t, x, 12)
		does(t, x, net.Event{Kind: net.Restart, N: 1}, api.OK)
		does(t, x, net.Event{Kind: net.Cut}, api.OK)
		does(t, x, net.Event{Kind: net.Mend}, api.OK)
		rest(t, x, 30)
		agrees(t, x, true, true)
		knows(t, x, 2, 2)
	}
	alike(t, n, twin)
}

// spoil writes over all that the configurations have in memory.
func spoil(confs []api.Config) {
	for _, c := range confs {
		for _, area := range c.Areas {
			clear(area)
		}
		for _, k := range c.Keys {
			clear(k.Secret)
		}
		clear(c.Areas)
		clear(c.Links)
		clear(c.Owns)
		clear(c.Leak)
		clear(c.Keys)
	}
	clear(confs)
}

// alike looks at whether two nets answer the same.
func alike(t *testing.T, n, twin *net.Net) {
	t.Helper()
	for i := range n.Count() {
		for k := range 2 {
			if !same(routes(t, n, i, k), routes(t, twin, i, k)) || !slices.Equal(entries(t, n, i, k+1), entries(t, twin, i, k+1)) {
				t.Errorf("of the router %d two nets answer\n%v\n%v and\n%v\n%v", i, routes(t, n, i, k), entries(t, n, i, k+1), routes(t, twin, i, k), entries(t, twin, i, k+1))
			}
		}
	}
}
