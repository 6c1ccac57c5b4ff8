package net_test

import (
	"bytes"
	"math"
	"testing"

	"waymark/api"
	"waymark/daemon"
	"waymark/net"
)

// P20.2

// isPeer looks at what Peer answers.
func isPeer(t *testing.T, n *net.Net, router, circuit, wantRouter, wantCircuit int, wantUp bool, want api.Errno) {
	t.Helper()
	r, c, up, e := n.Peer(router, circuit)
	if r != wantRouter || c != wantCircuit || up != wantUp || e != want {
		t.Errorf("Peer(%d, %d) = %d, %d, %t, %d; want %d, %d, %t, %d", router, circuit, r, c, up, e, wantRouter, wantCircuit, wantUp, want)
	}
}

// isJoined looks at whether each end of a cable is known at the other one.
func isJoined(t *testing.T, n *net.Net, c net.Cable, up bool) {
	t.Helper()
	isPeer(t, n, c.A, c.CA, c.B, c.CB, up, api.OK)
	isPeer(t, n, c.B, c.CB, c.A, c.CA, up, api.OK)
}

func TestPeer(t *testing.T) {
	confs, cables := row(api.L2, 3)
	confs[1].Links = append(confs[1].Links, confs[1].Links...)
	n := build(t, confs, append(cables, net.Cable{A: 0, CA: 0, B: 1, CB: 3}))
	isJoined(t, n, net.Cable{A: 0, CA: 1, B: 1, CB: 0}, true)
	isJoined(t, n, net.Cable{A: 1, CA: 1, B: 2, CB: 0}, true)
	isJoined(t, n, net.Cable{A: 0, CA: 0, B: 1, CB: 3}, true)
	isPeer(t, n, 1, 2, -1, -1, false, api.OK)
	isPeer(t, n, 2, 1, -1, -1, false, api.OK)
	does(t, n, net.Event{Kind: net.Cut, N: 2}, api.OK)
	isJoined(t, n, net.Cable{A: 0, CA: 0, B: 1, CB: 3}, false)
	isJoined(t, n, net.Cable{A: 0, CA: 1, B: 1, CB: 0}, true)
	does(t, n, net.Event{Kind: net.Mend, N: 2}, api.OK)
	isJoined(t, n, net.Cable{A: 0, CA: 0, B: 1, CB: 3}, true)
	for _, x := range [][2]int{{-1, 0}, {3, 0}, {math.MaxInt, 0}, {math.MinInt, 0}, {0, -1}, {0, 2}, {2, 2}, {1, 4}, {1, math.MaxInt}, {1, math.MinInt}, {9, 9}} {
		isPeer(t, n, x[0], x[1], 0, 0, false, api.ErrArg)
	}
}

// What the views answer is what the routers answer, which are the same when nobody is there.
func TestViews(t *testing.T) {
	confs, _ := row(api.L2, 3)
	confs[1].Level = api.Both
	confs[1].Owns = append(confs[1].Owns, api.Own{Prefix: api.Prefix{Fam: 6, Len: 8, Addr: [16]byte{0xfd}}, Level: api.L1})
	n := build(t, confs, nil)
	for i, c := range confs {
		d, e := daemon.New(c)
		if e != api.OK {
			t.Fatal(e)
		}
		for k := -1; k <= 4; k++ {
			if list := routes(t, n, i, k); !same(list, d.Routes(k)) {
				t.Errorf("Routes(%d, %d) = %v; want %v", i, k, list, d.Routes(k))
			}
			if list := entries(t, n, i, k); !same(list, d.Entries(k)) {
				t.Errorf("Entries(%d, %d) = %v; want %v", i, k, list, d.Entries(k))
			}
			for _, is := range []api.LSPID{id(i, 0), id(i, 1), id(i+1, 0)} {
				b, e := n.LSP(i, k, is)
				want, f := d.LSP(k, is)
				if !bytes.Equal(b, want) || e != f {
					t.Errorf("LSP(%d, %d, %v) = %x, %d; want %x, %d", i, k, is, b, e, want, f)
				}
			}
		}
		for fam := range byte(8) {
			for _, addr := range [][16]byte{{10, 1}, {10, 2, 3}, {0xfd, 1}, {}} {
				r, ok, e := n.Find(i, fam, addr)
				want, is, f := d.Find(fam, addr)
				if !same(r, want) || ok != is || e != f {
					t.Errorf("Find(%d, %d, %v) = %v, %t, %d; want %v, %t, %d", i, fam, addr, r, ok, e, want, is, f)
				}
			}
		}
	}
}

func TestViewsErrors(t *testing.T) {
	n := inARow(t, api.L2, 3)
	for _, i := range []int{-1, 3, 12, math.MinInt, math.MaxInt} {
		fails(t, n, i, api.ErrArg)
	}
	if ok, e := n.Agrees(0); ok || e != api.ErrArg {
		t.Errorf("Agrees(0) = %t, %d", ok, e)
	}
	if ok, e := n.Agrees(3); ok || e != api.ErrArg {
		t.Errorf("Agrees(3) = %t, %d", ok, e)
	}
	if b, e := n.LSP(0, 3, id(0, 0)); b != nil || e != api.ErrArg {
		t.Errorf("LSP = %x, %d", b, e)
	}
	if b, e := n.LSP(0, 1, id(0, 0)); b != nil || e != api.ErrNone {
		t.Errorf("LSP = %x, %d", b, e)
	}
	if b, e := n.LSP(0, 2, id(1, 0)); b != nil || e != api.ErrNone {
		t.Errorf("LSP = %x, %d", b, e)
	}
	if r, ok, e := n.Find(0, 5, [16]byte{}); !same(r, api.Route{}) || ok || e != api.ErrArg {
		t.Errorf("Find = %v, %t, %d", r, ok, e)
	}
}

// fails looks at whether all views of a router answer that error, and nothing beside it.
func fails(t *testing.T, n *net.Net, i int, want api.Errno) {
	t.Helper()
	if list, e := n.Routes(i, 0); len(list) != 0 || e != want {
		t.Errorf("Routes(%d) = %v, %d", i, list, e)
	}
	if list, e := n.Entries(i, 2); len(list) != 0 || e != want {
		t.Errorf("Entries(%d) = %v, %d", i, list, e)
	}
	if r, ok, e := n.Find(i, 4, [16]byte{10, 1}); !same(r, api.Route{}) || ok || e != want {
		t.Errorf("Find(%d) = %v, %t, %d", i, r, ok, e)
	}
	if b, e := n.LSP(i, 2, id(0, 0)); b != nil || e != want {
		t.Errorf("LSP(%d) = %x, %d", i, b, e)
	}
	isPeer(t, n, i, 0, 0, 0, false, want)
}

func TestNil(t *testing.T) {
	var n *net.Net
	if n.Count() != 0 {
		t.Errorf("Count = %d", n.Count())
	}
	fails(t, n, 0, api.ErrNone)
	fails(t, n, -1, api.ErrArg)
	fails(t, n, api.MaxRouters, api.ErrArg)
	isPeer(t, n, 0, -1, 0, 0, false, api.ErrArg)
	isPeer(t, n, 0, api.MaxCircuits, 0, 0, false, api.ErrArg)
	if _, _, e := n.Find(0, 5, [16]byte{}); e != api.ErrArg {
		t.Errorf("Find: %d", e)
	}
	if _, e := n.LSP(0, 3, id(0, 0)); e != api.ErrArg {
		t.Errorf("LSP: %d", e)
	}
	for level, want := range []api.Errno{api.ErrArg, api.ErrNone, api.ErrNone, api.ErrArg} {
		if ok, e := n.Agrees(level); ok || e != want {
			t.Errorf("Agrees(%d) = %t, %d; want %d", level, ok, e, want)
		}
	}
	for kind := range byte(7) {
		want := api.ErrNone
		if kind < net.Tick || kind > net.Configure {
			want = api.ErrArg
		}
		does(t, n, net.Event{Kind: kind, Conf: conf(0, 1, 0)}, want)
	}
	does(t, n, net.Event{Kind: net.Cut, N: -1}, api.ErrArg)
	does(t, n, net.Event{Kind: net.Mend, N: 64}, api.ErrArg)
	does(t, n, net.Event{Kind: net.Restart, N: -1}, api.ErrArg)
	does(t, n, net.Event{Kind: net.Configure, N: api.MaxRouters}, api.ErrArg)
	does(t, n, net.Event{Kind: net.Configure}, api.ErrArg)
	does(t, n, net.Event{Kind: net.Configure, Conf: api.Config{Level: 1}}, api.ErrForm)
	twice := conf(0, 1, 0)
	twice.Owns = append(twice.Owns, twice.Owns...)
	does(t, n, net.Event{Kind: net.Configure, Conf: twice}, api.ErrNone)
	does(t, n, net.Event{Kind: net.Tick, Fates: make([]net.Fate, api.MaxEvents+1)}, api.ErrLong)
}

// What is answered is new memory.
func TestAnswersAreNew(t *testing.T) {
	n, twin := inARow(t, api.L2, 3), inARow(t, api.L2, 3)
	for _, x := range []*net.Net{n, twin} {
		rest(t, x, 12)
	}
	for i := range 3 {
		list := routes(t, n, i, 0)
		for _, r := range list {
			clear(r.Hops[:cap(r.Hops)])
		}
		clear(list[:cap(list)])
		e := entries(t, n, i, 2)
		clear(e[:cap(e)])
		b, _ := n.LSP(i, 2, id(i, 0))
		clear(b[:cap(b)])
		r, _, _ := n.Find(i, 4, of((i+1)%3).Addr)
		clear(r.Hops[:cap(r.Hops)])
	}
	alike(t, n, twin)
	for _, x := range []*net.Net{n, twin} {
		rest(t, x, 12)
	}
	alike(t, n, twin)
}

// P20.3

// neighbours answers two routers joined by a cable; the second one's area is another one, if they are apart.
func neighbours(t *testing.T, level int, apart bool) *net.Net {
	t.Helper()
	confs, cables := row(level, 2)
	if apart {
		confs[1].Areas = [][]byte{{0x49, 2}}
	}
	return build(t, confs, cables)
}

// Only adjacencies that are Up and have the level count.
func TestAgrees(t *testing.T) {
	n := neighbours(t, api.Both, false)
	for i := 1; i <= 12; i++ {
		rest(t, n, 1)
		agrees(t, n, i != 6, i != 6) // both are Up at 6, and hold each its own LSP alone
	}
	n = neighbours(t, api.Both, true)
	for i := 1; i <= 12; i++ {
		rest(t, n, 1)
		agrees(t, n, true, i != 6)
	}
	holds(t, n, api.L1, 1, 1) // each its own
	holds(t, n, api.L2, 2, 2)
	n = neighbours(t, api.L1, false)
	for i := 1; i <= 12; i++ {
		rest(t, n, 1)
		agrees(t, n, i != 6, true)
	}
}

// A cable that is cut doesn't count, nor one of which only one end knows the other.
func TestAgreesOfWhoIsAway(t *testing.T) {
	n := neighbours(t, api.L2, false)
	rest(t, n, 6)
	agrees(t, n, true, false)
	does(t, n, net.Event{Kind: net.Cut}, api.OK)
	agrees(t, n, true, true)
	does(t, n, net.Event{Kind: net.Mend}, api.OK)
	rest(t, n, 12)
	agrees(t, n, true, true)
	for i := range 2 {
		does(t, n, net.Event{Kind: net.Restart, N: i}, api.OK)
		holds(t, n, api.L2, 1+i, 2-i)
		agrees(t, n, true, true)
		rest(t, n, 30)
		holds(t, n, api.L2, 2, 2)
		agrees(t, n, true, true)
	}
}

// However many cables there are, one pair that doesn't agree is enough.
func TestAgreesOfAllCables(t *testing.T) {
	n := inARow(t, api.L2, 4)
	rest(t, n, 20)
	agrees(t, n, true, true)
	for k := range 3 {
		does(t, n, net.Event{Kind: net.Cut, N: k}, api.OK)
		rest(t, n, 3)
		does(t, n, net.Event{Kind: net.Mend, N: k}, api.OK)
		agreed := 0
		for range 9 {
			rest(t, n, 1)
			if ok, _ := n.Agrees(api.L2); !ok {
				agreed++
			}
		}
		if agreed == 0 {
			t.Errorf("with the cable %d mended they never disagreed", k)
		}
		rest(t, n, 12)
		agrees(t, n, true, true)
	}
}

// LSPs may last longer with one than with the other.
func TestAgreesWhateverTheLife(t *testing.T) {
	n := neighbours(t, api.L2, false)
	rest(t, n, 6)
	tick(t, n, all(3)...)
	agrees(t, n, true, false)
	rest(t, n, 2)
	agrees(t, n, true, true)
	a, b := entries(t, n, 0, 2), entries(t, n, 1, 2)
	if len(a) != 2 || len(b) != 2 || a[0].Life == b[0].Life || a[1].Life == b[1].Life {
		t.Errorf("they hold %v and %v", a, b)
	}
}

// Purges don't count, be they held by one alone; what the other one still takes for right does.
func TestAgreesPurgesAside(t *testing.T) {
	confs, cables := row(api.L2, 2)
	for k := range 9 {
		p := api.Prefix{Fam: 4, Len: 24, Addr: [16]byte{11, byte(k)}}
		confs[0].Owns = append(confs[0].Owns, api.Own{Prefix: p, Level: api.Both})
	}
	n := build(t, confs, cables)
	rest(t, n, 12)
	holds(t, n, api.L2, 3, 3) // two fragments of the first router
	confs[0].Owns = confs[0].Owns[:1]
	does(t, n, net.Event{Kind: net.Configure, Conf: confs[0]}, api.OK)
	disagreed, alone := 0, 0
	for i := range 90 {
		rest(t, n, 1)
		ok, _ := n.Agrees(api.L2)
		a, b := entries(t, n, 0, 2), entries(t, n, 1, 2)
		switch {
		case !ok && i > 20:
			t.Errorf("they don't agree with %v and %v", a, b)
		case !ok:
			disagreed++
		case len(a) == 2 && len(b) == 3 && b[1].ID == id(0, 1) && b[1].Life == 0:
			alone++
		}
	}
	if disagreed == 0 || alone == 0 {
		t.Errorf("they disagreed %d times; %d times one held a purge alone", disagreed, alone)
	}
	holds(t, n, api.L2, 2, 2)
}
