package daemon_test

import (
	"math"
	"testing"

	"waymark/adj"
	"waymark/api"
	"waymark/daemon"
)

// P19.2

func TestLink(t *testing.T) {
	d := make1(t, conf(api.L2, 2))
	if len(d.Tick()) != 0 || len(d.Tick()) != 0 || len(d.Tick()) != 0 {
		t.Error("something goes out over circuits that aren't linked")
	}
	receive(t, d, 0, write(t, greeting(2, 0)), api.ErrState)
	link(t, d, 0, true)
	isDown(t, d, 0)
	receive(t, d, 1, write(t, greeting(2, 1)), api.ErrState)
	receive(t, d, 0, write(t, greeting(2, 0)), api.OK)
	wait(d, 2)
	if out := d.Tick(); len(over(out, 0)) == 0 || len(over(out, 1)) != 0 {
		t.Errorf("%v goes out", out)
	}
	link(t, d, 0, false)
	isDown(t, d, 0)
	receive(t, d, 0, write(t, greeting(2, 0)), api.ErrState)
	wait(d, 2)
	if out := d.Tick(); len(out) != 0 {
		t.Errorf("%v goes out", out)
	}
}

// Linked anew, or again, or taken away twice: nobody is known any more.
func TestLinkMakesDown(t *testing.T) {
	for _, up := range []bool{true, false} {
		d := make1(t, conf(api.Both, 2))
		meet(t, d, 0, 2)
		meet(t, d, 1, 3)
		link(t, d, 0, up)
		isDown(t, d, 0)
		link(t, d, 0, up)
		isDown(t, d, 0)
		if a := adjacency(t, d, 1); a.State != api.Up {
			t.Errorf("the other circuit's adjacency is %v", a)
		}
		link(t, d, 0, true)
		receive(t, d, 0, write(t, greeting(2, 0)), api.OK)
		if a := adjacency(t, d, 0); a.State != api.Up {
			t.Errorf("the adjacency is %v", a)
		}
	}
}

// Link doesn't settle: what is told and the routes become others at the next tick.
func TestLinkDoesNotSettle(t *testing.T) {
	d := make1(t, conf(api.L2, 1))
	meet(t, d, 0, 2)
	hears(t, d, 0, tells(say(2, 2, 1, 1), "10.2.0.0/16"))
	d.Tick()
	want := way("10.2.0.0/16", api.RouteL2, 15, api.Hop{Circuit: 0, To: sys(2)})
	routesAre(t, d, 0, want)
	link(t, d, 0, false)
	routesAre(t, d, 0, want)
	if l := held(t, d, 2, id(1, 0)); l.Seq != 2 || len(l.Edges[0]) != 1 {
		t.Errorf("%v is told", l)
	}
	d.Tick()
	routesAre(t, d, 0)
	if l := held(t, d, 2, id(1, 0)); l.Seq != 3 || len(l.Edges[0]) != 0 {
		t.Errorf("%v is told", l)
	}
}

func TestLinkErrors(t *testing.T) {
	d := make1(t, conf(api.L1, 2))
	for _, c := range []int{-1, 2, 8, math.MinInt, math.MaxInt} {
		for _, up := range []bool{true, false} {
			if e := d.Link(c, up); e != api.ErrArg {
				t.Errorf("Link(%d, %t) = %d", c, up, e)
			}
		}
		if a, e := d.Adjacency(c); e != api.ErrArg || a != (adj.Adjacency{}) {
			t.Errorf("Adjacency(%d) = %v, %d", c, a, e)
		}
	}
	d = make1(t, conf(api.L1, 0))
	if e := d.Link(0, true); e != api.ErrArg {
		t.Errorf("Link(0, true) = %d", e)
	}
}

// A circuit without a level in common with its router can be linked, but isn't used.
func TestLinkOfOneThatIsNotUsed(t *testing.T) {
	c := conf(api.L2, 2)
	c.Links[0].Level = api.L1
	d := make1(t, c)
	link(t, d, 0, true)
	link(t, d, 1, true)
	receive(t, d, 0, write(t, greeting(2, 0)), api.ErrState)
	wait(d, 2)
	if out := d.Tick(); len(over(out, 0)) != 0 || len(over(out, 1)) != 1 {
		t.Errorf("%v goes out", out)
	}
	// The levels may come with another configuration: the circuit is linked still.
	c.Links[0].Level = api.Both
	if e := d.Configure(c); e != api.OK {
		t.Fatal(e)
	}
	receive(t, d, 0, write(t, greeting(2, 0)), api.OK)
	wait(d, 2)
	if out := d.Tick(); len(over(out, 0)) == 0 {
		t.Errorf("%v goes out", out)
	}
}

func TestConfigure(t *testing.T) {
	c := conf(api.L2, 2)
	c.Owns = []api.Own{{Prefix: net("10.1.0.0/16"), Metric: 1, Level: api.L2}}
	d := make1(t, c)
	meet(t, d, 0, 2)
	meet(t, d, 1, 3)
	hears(t, d, 0, tells(say(2, 2, 1, 1), "10.2.0.0/16"))
	d.Tick()
	was := d.Routes(0)
	c.Host, c.Areas, c.Overload = "other", [][]byte{area2}, true
	c.Owns[0] = api.Own{Prefix: net("10.9.0.0/16"), Metric: 7, Level: api.L2}
	c.Links[0].Metric = [2]uint32{99, 0}
	if e := d.Configure(c); e != api.OK {
		t.Fatal(e)
	}
	isDown(t, d, 0)
	isDown(t, d, 1)
	// It isn't settled by this.
	if !same(d.Routes(0), was) || held(t, d, 2, id(1, 0)).Host != "r1" {
		t.Error("it was settled")
	}
	d.Tick()
	want := api.LSP{Level: 2, ID: id(1, 0), Seq: 3, Life: api.MaxAge, Areas: c.Areas, Host: "other", Overload: true}
	want.Reach[0] = []api.Reach{{Prefix: net("10.9.0.0/16"), Metric: 7}}
	holdsAs(t, d, want)
	routesAre(t, d, 0, way("10.9.0.0/16", api.RouteLocal, 7))
	// The circuits are linked still, and have their new metrics.
	receive(t, d, 0, write(t, greeting(2, 0)), api.OK)
	d.Tick()
	l := held(t, d, 2, id(1, 0))
	if len(l.Edges[0]) != 1 || l.Edges[0][0].Metric != 99 || len(l.Edges[1]) != 0 {
		t.Errorf("%v is told", l)
	}
	// What there was of LSPs is there still.
	holdsLife(t, d, tells(say(2, 2, 1, 1), "10.2.0.0/16"), api.MaxAge-3)
}

// holdsLife looks at whether d holds l, with another Life.
func holdsLife(t *testing.T, d *daemon.Daemon, l api.LSP, life int) {
	t.Helper()
	l.Life = life
	holdsAs(t, d, l)
}

// The new keys sign and open from then on.
func TestConfigureKeys(t *testing.T) {
	one, two := api.Key{ID: 1, Secret: []byte("one")}, api.Key{ID: 2, Secret: []byte("two")}
	c := conf(api.L2, 1)
	c.Keys = []api.Key{one}
	d := make1(t, c)
	link(t, d, 0, true)
	receive(t, d, 0, seal(t, greeting(2, 0), two), api.ErrKey)
	c.Keys = []api.Key{two, one}
	if e := d.Configure(c); e != api.OK {
		t.Fatal(e)
	}
	receive(t, d, 0, seal(t, greeting(2, 0), two), api.OK)
	receive(t, d, 0, seal(t, greeting(2, 0), one), api.OK)
	wait(d, 2)
	if list := tick(t, d, two); len(ofKind(list, helloKind)) != 1 || len(ofKind(list, 20)) != 1 {
		t.Errorf("%v goes out", list)
	}
}

func TestConfigureErrors(t *testing.T) {
	d, twin := make1(t, conf(api.L2, 2)), make1(t, conf(api.L2, 2))
	for _, x := range []*daemon.Daemon{d, twin} {
		meet(t, x, 0, 2)
		hears(t, x, 0, tells(say(2, 2, 1, 1), "10.2.0.0/16"))
	}
	for _, turn := range []func(*api.Config){
		func(c *api.Config) { c.Sys = sys(2) },
		func(c *api.Config) { c.Sys[0] = 1 },
		func(c *api.Config) { c.Level = api.L1 },
		func(c *api.Config) { c.Level = api.Both },
		func(c *api.Config) { c.Links = c.Links[:1] },
		func(c *api.Config) { c.Links = nil },
		func(c *api.Config) { c.Links = append(c.Links, c.Links[0]) },
	} {
		c := conf(api.L2, 2)
		turn(&c)
		if e := d.Configure(c); e != api.ErrState {
			t.Errorf("Configure(%v) = %d", c, e)
		}
		c.Areas = nil
		if e := d.Configure(c); e != api.ErrForm {
			t.Errorf("Configure(%v) = %d", c, e)
		}
		c.Level = 9
		if e := d.Configure(c); e != api.ErrArg {
			t.Errorf("Configure(%v) = %d", c, e)
		}
	}
	// Nothing has changed.
	if a := adjacency(t, d, 0); a.State != api.Up {
		t.Errorf("the adjacency is %v", a)
	}
	for range 10 {
		if x, y := d.Tick(), twin.Tick(); !same(x, y) {
			t.Errorf("%v goes out; want %v", x, y)
		}
	}
}
