package daemon_test

import (
	"math"
	"testing"

	"waymark/adj"
	"waymark/api"
	"waymark/daemon"
)

// P19.3: settling: the routes. P19.4: what there is.

// hop answers a way on.
func hop(circuit int, n byte) api.Hop {
	return api.Hop{Circuit: circuit, To: sys(n)}
}

// The whole's seventh example, and what is better than what.
func TestRouteKinds(t *testing.T) {
	c := conf(api.Both, 2)
	c.Owns = []api.Own{{Prefix: net("10.1.0.0/16"), Metric: 1000, Level: api.L1}}
	d := make1(t, c)
	meet(t, d, 0, 2)
	meet(t, d, 1, 3)
	far := say(1, 2, 1, 1)
	for i := range far.Edges {
		far.Edges[i][0].Metric = 1 // what it costs back doesn't matter
	}
	far.Reach[0] = []api.Reach{{Prefix: net("10.2.0.0/16"), Metric: 40}, {Prefix: net("10.1.0.0/16"), Metric: 1}, {Prefix: net("10.5.0.0/16"), Metric: 4261412853}}
	far = down(down(far, "10.3.0.0/16", 1), "10.4.0.0/16", 1)
	hears(t, d, 0, far, tells(say(2, 3, 1, 1), "10.2.0.0/16", "10.1.0.0/16", "10.3.0.0/16", "11.0.0.0/8"))
	d.Tick()
	routesAre(t, d, 0,
		way("10.1.0.0/16", api.RouteLocal, 1000),
		way("10.2.0.0/16", api.RouteL1, 50, hop(0, 2)),
		way("10.3.0.0/16", api.RouteL2, 16, hop(1, 3)),
		way("10.4.0.0/16", api.RouteDown, 11, hop(0, 2)),
		way("10.5.0.0/16", api.RouteL1, 4261412863, hop(0, 2)),
		way("11.0.0.0/8", api.RouteL2, 16, hop(1, 3)))
}

// Two circuits to one router, two routers of one prefix: several hops; and each topology has its own metrics.
func TestRouteHops(t *testing.T) {
	c := conf(api.L2, 4)
	c.Links[0].Metric = [2]uint32{10, 30}
	c.Links[1].Metric = [2]uint32{10, 20}
	c.Links[2].Metric = [2]uint32{10, 0}
	c.Links[3].Metric = [2]uint32{api.MaxLink, 9}
	d := make1(t, c)
	for circuit, n := range []byte{3, 3, 2, 2} {
		meet(t, d, circuit, n)
	}
	hears(t, d, 0, tells(say(2, 3, 1, 1), "10.9.0.0/16", "2001::/16"), tells(say(2, 2, 1, 1), "10.9.0.0/16", "2001::/16"))
	d.Tick()
	routesAre(t, d, 0, way("10.9.0.0/16", api.RouteL2, 15, hop(0, 3), hop(1, 3), hop(2, 2)))
	routesAre(t, d, 1, way("2001::/16", api.RouteL2, 14, hop(3, 2)))
}

// Who has level 1 alone, or isn't attached itself, goes to the nearest one that is.
func TestRouteDefault(t *testing.T) {
	near, far := say(1, 2, 1, 1), say(1, 3, 1, 1)
	near.Attached, far.Attached = [2]bool{true, false}, [2]bool{true, true}
	for _, level := range []int{api.L1, api.Both} {
		d := make1(t, conf(level, 3))
		meet(t, d, 0, 2)
		meet(t, d, 1, 3)
		hears(t, d, 0, near, far)
		d.Tick()
		routesAre(t, d, 0, way("0.0.0.0/0", api.RouteDefault, 10, hop(0, 2)))
		routesAre(t, d, 1, way("::/0", api.RouteDefault, 21, hop(1, 3)))
		if level == api.L1 {
			continue
		}
		// Attached itself, for IPv4 alone: that default goes, in the same settling.
		meet(t, d, 2, 4)
		other := say(2, 4, 1, 1)
		other.Areas, other.Edges[1] = [][]byte{area2}, nil
		hears(t, d, 2, other)
		d.Tick()
		if l := held(t, d, 1, id(1, 0)); l.Attached != [2]bool{true, false} {
			t.Errorf("%v is told", l)
		}
		routesAre(t, d, 0)
		routesAre(t, d, 1, way("::/0", api.RouteDefault, 21, hop(1, 3)))
		// And comes again.
		link(t, d, 2, false)
		d.Tick()
		routesAre(t, d, 0, way("0.0.0.0/0", api.RouteDefault, 10, hop(0, 2)))
	}
	// At level 2 there is none; any other route to no bits is better.
	d := make1(t, conf(api.L2, 1))
	meet(t, d, 0, 2)
	near.Level = 2
	hears(t, d, 0, near)
	d.Tick()
	routesAre(t, d, 0)
	d = make1(t, conf(api.L1, 2))
	meet(t, d, 0, 2)
	meet(t, d, 1, 3)
	near.Level = 1
	hears(t, d, 0, near, down(say(1, 3, 1, 1), "0.0.0.0/0", 500))
	d.Tick()
	routesAre(t, d, 0, way("0.0.0.0/0", api.RouteDown, 511, hop(1, 3)))
}

// While a level is mute, nobody is reached over it.
func TestRouteWhileMute(t *testing.T) {
	d := make1(t, conf(api.L2, 1))
	meet(t, d, 0, 2)
	hears(t, d, 0, tells(say(2, 2, 1, 1), "10.2.0.0/16"))
	d.Tick()
	routesAre(t, d, 0, way("10.2.0.0/16", api.RouteL2, 15, hop(0, 2)))
	silence(t, d, 2)
	routesAre(t, d, 0)
}

func TestFind(t *testing.T) {
	c := conf(api.L2, 1)
	c.Owns = []api.Own{{Prefix: net("10.1.0.0/16"), Metric: 1, Level: 2}, {Prefix: net("2001:db8::/32"), Metric: 2, Level: 2}, {Prefix: net("a01::/16"), Level: 2}}
	d := make1(t, c)
	meet(t, d, 0, 2)
	hears(t, d, 0, tells(say(2, 2, 1, 1), "10.0.0.0/8", "2001:db8:7::/48"))
	d.Tick()
	for _, c := range []struct {
		fam  byte
		addr string
		want api.Route
		ok   bool
	}{
		{4, "10.1.2.3/32", way("10.1.0.0/16", api.RouteLocal, 1), true},
		{4, "10.2.0.0/32", way("10.0.0.0/8", api.RouteL2, 15, hop(0, 2)), true},
		{4, "11.0.0.0/32", api.Route{}, false},
		{6, "2001:db8:7::1/128", way("2001:db8:7::/48", api.RouteL2, 25, hop(0, 2)), true},
		{6, "2001:db8:8::/128", way("2001:db8::/32", api.RouteLocal, 2), true},
		{6, "2002::/128", api.Route{}, false},
		{6, "a01::/128", way("a01::/16", api.RouteLocal, 0), true},
	} {
		got, ok, e := d.Find(c.fam, net(c.addr).Addr)
		if !same(got, c.want) || ok != c.ok || e != api.OK {
			t.Errorf("Find(%s) = %v, %t, %d; want %v", c.addr, got, ok, e, c.want)
		}
	}
	for _, fam := range []byte{0, 1, 5, 7, 255} {
		if r, ok, e := d.Find(fam, [16]byte{10, 1}); !same(r, api.Route{}) || ok || e != api.ErrArg {
			t.Errorf("Find(%d) = %v, %t, %d", fam, r, ok, e)
		}
	}
}

func TestViews(t *testing.T) {
	c := conf(api.L2, 2)
	c.Owns = []api.Own{{Prefix: net("10.1.0.0/16"), Metric: 1, Level: 2}}
	d := make1(t, c)
	meet(t, d, 0, 2)
	hears(t, d, 0, say(2, 9, 1), say(2, 3, 1))
	if e := d.Entries(2); len(e) != 3 || e[0].ID != id(1, 0) || e[1].ID != id(3, 0) || e[2].ID != id(9, 0) {
		t.Errorf("Entries = %v", e)
	}
	for _, level := range []int{1, 0, 3, -1, 4, math.MaxInt, math.MinInt} {
		if e := d.Entries(level); len(e) != 0 {
			t.Errorf("Entries(%d) = %v", level, e)
		}
		want := api.ErrArg
		if level == 1 {
			want = api.ErrNone
		}
		if b, e := d.LSP(level, id(1, 0)); len(b) != 0 || e != want {
			t.Errorf("LSP(%d) = %x, %d", level, b, e)
		}
	}
	if b, e := d.LSP(2, id(4, 0)); len(b) != 0 || e != api.ErrNone {
		t.Errorf("LSP = %x, %d", b, e)
	}
	for _, topology := range []int{1, -1, 2, 3, math.MinInt, math.MaxInt} {
		if r := d.Routes(topology); len(r) != 0 {
			t.Errorf("Routes(%d) = %v", topology, r)
		}
	}
	for i := range 5 {
		if d.Now() != int64(i) {
			t.Errorf("Now = %d", d.Now())
		}
		d.Tick()
	}
}

// Answers are new memory.
func TestViewMemory(t *testing.T) {
	c := conf(api.L2, 1)
	d := make1(t, c)
	meet(t, d, 0, 2)
	hears(t, d, 0, tells(say(2, 2, 1, 1), "10.2.0.0/16", "10.3.0.0/16"))
	d.Tick()
	want := []api.Route{way("10.2.0.0/16", api.RouteL2, 15, hop(0, 2)), way("10.3.0.0/16", api.RouteL2, 15, hop(0, 2))}
	b, _ := d.LSP(2, id(2, 0))
	fill(b)
	holdsLife(t, d, tells(say(2, 2, 1, 1), "10.2.0.0/16", "10.3.0.0/16"), api.MaxAge-1)
	e := d.Entries(2)
	clear(e[:cap(e)])
	if got := d.Entries(2); len(got) != 2 || got[0].ID != id(1, 0) {
		t.Errorf("Entries = %v", got)
	}
	r := d.Routes(0)
	clear(r[0].Hops[:cap(r[0].Hops)])
	if !same(r[1], want[1]) {
		t.Errorf("two routes share hops: %v", r)
	}
	clear(r[:cap(r)])
	routesAre(t, d, 0, want...)
	one, _, _ := d.Find(4, [16]byte{10, 2})
	clear(one.Hops[:cap(one.Hops)])
	routesAre(t, d, 0, want...)
	if one, _, _ = d.Find(4, [16]byte{10, 2}); !same(one, want[0]) {
		t.Errorf("Find = %v", one)
	}
	d.Tick()
	if !same(one, want[0]) {
		t.Errorf("an answer became %v", one)
	}
}

func TestNil(t *testing.T) {
	var d *daemon.Daemon
	for _, c := range []struct {
		circuit int
		e       api.Errno
	}{{0, api.ErrNone}, {7, api.ErrNone}, {-1, api.ErrArg}, {8, api.ErrArg}, {math.MaxInt, api.ErrArg}} {
		if e := d.Receive(c.circuit, nil); e != c.e {
			t.Errorf("Receive = %d", e)
		}
		if e := d.Link(c.circuit, true); e != c.e {
			t.Errorf("Link = %d", e)
		}
		if a, e := d.Adjacency(c.circuit); a != (adj.Adjacency{}) || e != c.e {
			t.Errorf("Adjacency = %v, %d", a, e)
		}
	}
	if out := d.Tick(); len(out) != 0 {
		t.Errorf("Tick = %v", out)
	}
	if d.Now() != 0 || len(d.Entries(1)) != 0 || len(d.Entries(2)) != 0 || len(d.Routes(0)) != 0 || len(d.Routes(9)) != 0 {
		t.Error("of nil there is something")
	}
	for level, want := range []api.Errno{api.ErrArg, api.ErrNone, api.ErrNone, api.ErrArg} {
		if b, e := d.LSP(level, id(1, 0)); len(b) != 0 || e != want {
			t.Errorf("LSP(%d) = %x, %d", level, b, e)
		}
	}
	for fam, want := range map[byte]api.Errno{4: api.ErrNone, 6: api.ErrNone, 5: api.ErrArg} {
		if r, ok, e := d.Find(fam, [16]byte{}); !same(r, api.Route{}) || ok || e != want {
			t.Errorf("Find(%d) = %v, %t, %d", fam, r, ok, e)
		}
	}
	if e := d.Configure(full()); e != api.ErrNone {
		t.Errorf("Configure = %d", e)
	}
	for what, f := range faults() {
		c := full()
		f.turn(&c)
		if e := d.Configure(c); e != min(f.e, api.ErrNone) {
			t.Errorf("Configure with %s = %d", what, e)
		}
	}
}
