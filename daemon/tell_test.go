package daemon_test

import (
	"bytes"
	"math"
	"slices"
	"testing"

	"waymark/api"
	"waymark/daemon"
	"waymark/pdu"
)

// P19.3: settling: what is told.

// Edges: of each circuit that is open at the level, in the order of the circuits, whose metric isn't 0.
func TestTellEdges(t *testing.T) {
	c := conf(api.Both, 6)
	c.Links[1].Level = api.L1
	c.Links[2].Level = api.L2
	c.Links[3].Metric = [2]uint32{0, api.MaxLink}
	c.Links[4].Metric = [2]uint32{api.MaxLink, 0}
	d := make1(t, c)
	for i, circuit := range []int{5, 4, 3, 2, 1, 0} {
		meet(t, d, circuit, []byte{2, 3, 4, 5, 6, 2}[i])
	}
	d.Tick()
	to := func(n byte, metric uint32) api.Edge {
		return api.Edge{To: api.Node{Sys: sys(n)}, Metric: metric}
	}
	one, two := held(t, d, 1, id(1, 0)), held(t, d, 2, id(1, 0))
	for _, c := range []struct{ got, want []api.Edge }{
		{one.Edges[0], []api.Edge{to(2, 10), to(6, 11), to(3, api.MaxLink), to(2, 15)}},
		{one.Edges[1], []api.Edge{to(2, 20), to(6, 21), to(4, api.MaxLink), to(2, 25)}},
		{two.Edges[0], []api.Edge{to(2, 10), to(5, 12), to(3, api.MaxLink), to(2, 15)}},
		{two.Edges[1], []api.Edge{to(2, 20), to(5, 22), to(4, api.MaxLink), to(2, 25)}},
	} {
		if !slices.Equal(c.got, c.want) {
			t.Errorf("edges %v are told; want %v", c.got, c.want)
		}
	}
	// Who is Init only isn't told.
	receive(t, d, 0, write(t, hello(2, 3)), api.OK)
	d.Tick()
	if l := held(t, d, 1, id(1, 0)); !slices.Equal(l.Edges[0], one.Edges[0][1:]) || l.Seq != one.Seq+1 {
		t.Errorf("%v is told", l)
	}
}

// Own prefixes: those of the level; at level 2 all, if the router has both; in the order of the configuration.
func TestTellOwns(t *testing.T) {
	for level := 1; level <= 3; level++ {
		c := conf(level, 0)
		for i, text := range []string{"10.3.0.0/16", "10.1.0.0/16", "2001:db8::/32", "10.2.0.0/16", "::/0", "0.0.0.0/0"} {
			c.Owns = append(c.Owns, api.Own{Prefix: net(text), Metric: uint32(i), Level: 1 + i%3})
		}
		c.Owns[1].Metric = math.MaxUint32
		d := make1(t, c)
		for lv := 1; lv <= 2; lv++ {
			if level&lv == 0 {
				continue
			}
			var want [2][]api.Reach
			for _, o := range c.Owns {
				if o.Level&lv != 0 || level == 3 && lv == 2 {
					f := int(o.Prefix.Fam-4) / 2
					want[f] = append(want[f], api.Reach{Prefix: o.Prefix, Metric: o.Metric})
				}
			}
			if l := held(t, d, lv, id(1, 0)); !same(l.Reach, want) {
				t.Errorf("%d: %v is told; want %v", level, l.Reach, want)
			}
		}
		// All of them are routes, whichever level they are told at.
		routesAre(t, d, 0, way("0.0.0.0/0", 0, 5), way("10.1.0.0/16", 0, math.MaxUint32), way("10.2.0.0/16", 0, 3), way("10.3.0.0/16", 0, 0))
		routesAre(t, d, 1, way("::/0", 0, 4), way("2001:db8::/32", 0, 2))
	}
}

// Eight things to a fragment; what isn't wanted any more is purged, and told anew behind that with a greater number.
func TestTellFragments(t *testing.T) {
	key := api.Key{ID: 1, Secret: []byte("k")}
	c := conf(api.L2, 1)
	c.Keys = []api.Key{key}
	for i := range 16 {
		c.Owns = append(c.Owns, api.Own{Prefix: api.Prefix{Fam: 4, Len: 16, Addr: [16]byte{10, byte(i)}}, Level: 2})
	}
	d := make1(t, c)
	if e := d.Entries(2); len(e) != 2 || e[0].Seq != 1 || e[1].Seq != 1 || e[1].ID != id(1, 1) {
		t.Fatalf("Entries = %v", e)
	}
	link(t, d, 0, true)
	receive(t, d, 0, seal(t, greeting(2, 0), key), api.OK)
	d.Tick()
	all := d.Entries(2)
	receive(t, d, 0, seal(t, sum(t, psnp2, all...), key), api.OK)
	old, _ := d.LSP(2, id(1, 1))
	// A prefix of the second fragment goes: the first one stays as it is.
	less := c
	less.Owns = c.Owns[:15]
	reconfigure(t, d, less, key)
	e := d.Entries(2)
	if e[0].Seq != all[0].Seq || e[1].Seq != 2 {
		t.Errorf("Entries = %v", e)
	}
	// Then all of them: a purge, with the words that it had, signed with the old key.
	other := api.Key{ID: 2, Secret: []byte("o")}
	less.Owns = c.Owns[:8]
	less.Keys = []api.Key{other, key}
	was, _ := d.LSP(2, id(1, 1))
	reconfigure(t, d, less, other)
	was[10], was[11] = 0, 0
	if b, _ := d.LSP(2, id(1, 1)); !bytes.Equal(b, was) || bytes.Equal(b, old) {
		t.Errorf("it is held as %x; want %x", b, was)
	}
	open(t, was, key)
	if e := d.Entries(2)[0]; e.Seq != all[0].Seq { // a key alone isn't another word
		t.Errorf("the first fragment is %v", e)
	}
	out := d.Tick()
	if !hasBytes(over(out, 0), was) {
		t.Errorf("%v goes out", out)
	}
	wait(d, 20)
	c.Keys = less.Keys
	reconfigure(t, d, c, other)
	b, _ := d.LSP(2, id(1, 1))
	if p := open(t, b, other); p.Seq != 3 || p.Life != api.MaxAge {
		t.Errorf("it is held as %v", p)
	}
	// Purged again, and gone: the next one is of the number 1.
	reconfigure(t, d, less, other)
	wait(d, api.ZeroAge)
	if e := d.Entries(2); len(e) != 1 {
		t.Errorf("Entries = %v", e)
	}
	reconfigure(t, d, c, other)
	if e := d.Entries(2); len(e) != 2 || e[1].Seq != 1 {
		t.Errorf("Entries = %v", e)
	}
}

// reconfigure gives d another configuration, and lets a tick go by in which the neighbour 2 is known as before.
func reconfigure(t *testing.T, d *daemon.Daemon, c api.Config, key api.Key) {
	t.Helper()
	if e := d.Configure(c); e != api.OK {
		t.Fatal(e)
	}
	receive(t, d, 0, seal(t, greeting(2, 0), key), api.OK)
	d.Tick()
}

// What others say in the router's name is told otherwise, or purged.
func TestTellOverwhatComes(t *testing.T) {
	for level := api.L1; level <= api.L2; level++ {
		d := make1(t, conf(level, 1))
		meet(t, d, 0, 2)
		d.Tick()
		was := held(t, d, level, id(1, 0))
		strange, more, pseudo := was, was, was
		strange.Seq, strange.Host = 40, "somebody"
		more.ID.Frag, more.Seq = 255, 7
		pseudo.ID.Node.Pseudo = 1
		hears(t, d, 0, strange, more, pseudo)
		holdsAs(t, d, strange)
		d.Tick()
		was.Seq, was.Life = 41, api.MaxAge
		holdsAs(t, d, was)
		holdsLife(t, d, more, 0)
		holdsLife(t, d, pseudo, api.MaxAge-1) // of a pseudonode nothing is known here
		// What is as it is wanted stays.
		was.Seq, was.Life = 90, 700
		hears(t, d, 0, was)
		d.Tick()
		holdsLife(t, d, was, 699)
		// An older one, or the same, changes nothing.
		was.Seq, was.Host = 89, "older"
		hears(t, d, 0, was)
		d.Tick()
		if e := d.Entries(level)[0]; e.Seq != 90 {
			t.Errorf("it is held as %v", e)
		}
	}
}

// The numbers come to their end: the level is mute till all have forgotten, then it begins anew; the other level goes on.
func TestMute(t *testing.T) {
	for level := api.L1; level <= api.L2; level++ {
		c := conf(api.Both, 1)
		for i := range 9 {
			c.Owns = append(c.Owns, api.Own{Prefix: api.Prefix{Fam: 6, Len: 16, Addr: [16]byte{32, byte(i)}}, Level: 3})
		}
		d := make1(t, c)
		meet(t, d, 0, 2)
		d.Tick()
		silence(t, d, level)
		begun := d.Now()
		for _, e := range d.Entries(level) {
			if e.Life != 0 {
				t.Errorf("at the beginning there is %v", e)
			}
		}
		for i := range api.MaxAge + api.ZeroAge {
			if count := len(d.Entries(level)); i < api.ZeroAge && count != 2 || i >= api.ZeroAge && count != 0 || int64(i) != d.Now()-begun {
				t.Fatalf("%d ticks later there are %d LSPs", i, count)
			}
			if e := d.Entries(3 - level); len(e) != 2 || e[0].Life <= api.MaxAge-api.Refresh {
				t.Fatalf("%d ticks later the other level has %v", i, e)
			}
			if i == 500 { // what comes in its name is purged
				l := say(level, 1, 5)
				hears(t, d, 0, l)
				d.Tick()
				holdsLife(t, d, l, 0)
				l.Life, l.Seq = 0, 6
				hears(t, d, 0, l)
				d.Tick()
				holdsLife(t, d, l, 0)
				begun, i = begun+2, i+2
				mute(t, d, level, begun+api.MaxAge+api.ZeroAge-2)
				break
			}
			d.Tick()
		}
		if e := d.Entries(level); len(e) != 2 || e[0].Seq != 1 || e[1].Seq != 1 {
			t.Errorf("at the end there is %v", e)
		}
	}
}

// mute looks at whether the level tells nothing till that time, and tells something then.
func mute(t *testing.T, d *daemon.Daemon, level int, till int64) {
	t.Helper()
	for d.Now() < till {
		for _, e := range d.Entries(level) {
			if e.Life != 0 {
				t.Fatalf("at %d there is %v", d.Now(), e)
			}
		}
		d.Tick()
	}
}

// The greatest number isn't the end, if what is told need not be told anew; then it is.
func TestMuteAtRefresh(t *testing.T) {
	d := make1(t, conf(api.L2, 1))
	meet(t, d, 0, 2)
	d.Tick()
	l := held(t, d, 2, id(1, 0))
	l.Seq, l.Life = math.MaxUint32, 310
	hears(t, d, 0, l)
	wait(d, 9)
	holdsLife(t, d, l, 301)
	d.Tick()
	holdsLife(t, d, l, 0)
	mute(t, d, 2, d.Now()+api.MaxAge+api.ZeroAge)
	if e := d.Entries(2); len(e) != 1 || e[0].Seq != 1 {
		t.Errorf("at the end there is %v", e)
	}
	// The number below the greatest one can be told anew once.
	l.Seq, l.Life, l.Host = math.MaxUint32-1, 900, "other"
	hears(t, d, 0, l)
	d.Tick()
	if e := d.Entries(2)[0]; e.Seq != math.MaxUint32 || e.Life != api.MaxAge {
		t.Errorf("it is told as %v", e)
	}
}

// All is done twice, and not more often: where only the second time comes to the numbers' end, level 1 doesn't yet tell what follows from that.
func TestTwice(t *testing.T) {
	c := conf(api.Both, 2)
	c.Links[0].Level = api.L2
	d := make1(t, c)
	meet(t, d, 0, 2)
	far := say(2, 2, 1, 1)
	far.Areas = [][]byte{area2}
	hears(t, d, 0, far)
	d.Tick()
	l := held(t, d, 2, id(1, 0))
	l.Seq = math.MaxUint32 - 1
	hears(t, d, 0, l)
	d.Tick()
	meet(t, d, 1, 3)
	hears(t, d, 1, tells(say(1, 3, 1, 1), "10.3.0.0/16"))
	for range 2 { // first the edge to 3 is told at level 2, then its prefix; and nothing changes later on
		d.Tick()
		if e := d.Entries(2)[0]; e.Seq != math.MaxUint32 || e.Life != 0 {
			t.Errorf("at level 2 there is %v", e)
		}
		if l := held(t, d, 1, id(1, 0)); l.Attached != [2]bool{true, true} {
			t.Errorf("%v is told", l)
		}
	}
	hears(t, d, 1, say(1, 4, 1)) // something else
	d.Tick()
	if l := held(t, d, 1, id(1, 0)); l.Attached != [2]bool{} {
		t.Errorf("%v is told", l)
	}
}

// Overload, as it is configured, at all levels.
func TestTellOverload(t *testing.T) {
	c := conf(api.Both, 1)
	d := make1(t, c)
	for _, is := range []bool{true, false, true} {
		c.Overload = is
		if e := d.Configure(c); e != api.OK {
			t.Fatal(e)
		}
		d.Tick()
		for level := 1; level <= 2; level++ {
			if l := held(t, d, level, id(1, 0)); l.Overload != is {
				t.Errorf("%v is told", l)
			}
		}
	}
}

// Who has refused an LSP of a level is overloaded there, till one is gone; nothing is attached then.
func TestTellRefused(t *testing.T) {
	c := conf(api.Both, 2)
	c.Links[1].Level = api.L2
	d := make1(t, c)
	meet(t, d, 0, 2)
	meet(t, d, 1, 3)
	far := say(2, 3, 1, 1)
	far.Areas = [][]byte{area2}
	hears(t, d, 1, far)
	d.Tick()
	if l := held(t, d, 1, id(1, 0)); l.Attached != [2]bool{true, true} || l.Overload {
		t.Fatalf("%v is told", l)
	}
	for i := range api.MaxLSPs - 1 {
		l := say(1, byte(10+i/200), 1)
		l.ID.Frag, l.Life = byte(i%200), 100
		hears(t, d, 0, l)
	}
	d.Tick()
	l := held(t, d, 1, id(1, 0))
	if l.Overload {
		t.Fatalf("%v is told", l)
	}
	// The refusal alone, with no LSP behind it, is told.
	receive(t, d, 0, state(t, say(1, 99, 1)), api.ErrFull)
	d.Tick()
	if l := held(t, d, 1, id(1, 0)); !l.Overload || l.Attached != [2]bool{} {
		t.Errorf("%v is told", l)
	}
	if l := held(t, d, 2, id(1, 0)); l.Overload {
		t.Errorf("%v is told", l)
	}
	seq := d.Entries(1)[0].Seq
	wait(d, 50)
	receive(t, d, 0, state(t, say(1, 99, 1)), api.ErrFull)
	wait(d, 50)
	if e := d.Entries(1)[0]; e.Seq != seq {
		t.Errorf("it was told anew: %v", e)
	}
	wait(d, 57)
	if l := held(t, d, 1, id(1, 0)); !l.Overload || len(d.Entries(1)) != api.MaxLSPs {
		t.Errorf("%v is told", l)
	}
	d.Tick()
	if l := held(t, d, 1, id(1, 0)); l.Overload || l.Attached != [2]bool{true, true} || len(d.Entries(1)) != 1 {
		t.Errorf("%v is told", l)
	}
}

// Own fragments that find no room are told when there is some; till then that is told as overload.
func TestTellWithoutRoom(t *testing.T) {
	c := conf(api.L2, 1)
	d := make1(t, c)
	meet(t, d, 0, 2)
	for i := range api.MaxLSPs - 1 {
		l := say(2, byte(10+i/200), 1)
		l.ID.Frag, l.Life = byte(i%200), 9
		hears(t, d, 0, l)
	}
	d.Tick()
	for i := range 9 {
		c.Owns = append(c.Owns, api.Own{Prefix: api.Prefix{Fam: 4, Len: 16, Addr: [16]byte{10, byte(i)}}, Level: 2})
	}
	if e := d.Configure(c); e != api.OK {
		t.Fatal(e)
	}
	meet(t, d, 0, 2)
	out := d.Tick()
	if l := held(t, d, 2, id(1, 0)); !l.Overload || len(l.Reach[0]) != 8 {
		t.Errorf("%v is told", l)
	}
	if _, e := d.LSP(2, id(1, 1)); e != api.ErrNone || len(ofLSPs(t, out)) != api.MaxLSPs {
		t.Errorf("a fragment that isn't held is told: %d", e)
	}
	wait(d, 7+api.ZeroAge)
	if l := held(t, d, 2, id(1, 0)); l.Overload {
		t.Errorf("%v is told", l)
	}
	if l := held(t, d, 2, id(1, 1)); len(l.Reach[0]) != 1 || l.Seq != 1 {
		t.Errorf("%v is told", l)
	}
}

// Attached: who has both levels, and reaches another area at level 2, in that topology.
func TestTellAttached(t *testing.T) {
	for _, c := range []struct {
		what string
		turn func(*api.LSP)
		want [2]bool
	}{
		{"another area", func(l *api.LSP) { l.Areas = [][]byte{area2} }, [2]bool{true, true}},
		{"another one, too", func(l *api.LSP) { l.Areas = [][]byte{area1, area2} }, [2]bool{true, true}},
		{"the same", func(l *api.LSP) { l.Areas = [][]byte{area1} }, [2]bool{}},
		{"none", func(l *api.LSP) { l.Areas = nil }, [2]bool{}},
		{"IPv6's alone", func(l *api.LSP) { l.Areas = [][]byte{area2}; l.Edges[0] = nil }, [2]bool{false, true}},
		{"IPv4's alone", func(l *api.LSP) { l.Areas = [][]byte{area2}; l.Edges[1] = nil }, [2]bool{true, false}},
		{"nothing back", func(l *api.LSP) { l.Areas = [][]byte{area2}; l.Edges = [2][]api.Edge{} }, [2]bool{}},
		{"a purge", func(l *api.LSP) { l.Areas = [][]byte{area2}; l.Life = 0 }, [2]bool{}},
	} {
		for level := 1; level <= 3; level++ {
			d := make1(t, conf(level, 1))
			meet(t, d, 0, 2)
			l := say(2, 2, 1, 1)
			c.turn(&l)
			want := api.OK
			if level == 1 {
				want = api.ErrState
			}
			receive(t, d, 0, state(t, l), want)
			d.Tick() // one settling is enough
			for lv := 1; lv <= 2; lv++ {
				if level&lv == 0 {
					continue
				}
				want := [2]bool{}
				if level == 3 && lv == 1 {
					want = c.want
				}
				if l := held(t, d, lv, id(1, 0)); l.Attached != want {
					t.Errorf("with %s, of the levels %d, %v is told at %d; want %v", c.what, level, l.Attached, lv, want)
				}
			}
		}
	}
	c := conf(api.Both, 1)
	c.Overload = true
	d := make1(t, c)
	meet(t, d, 0, 2)
	l := say(2, 2, 1, 1)
	l.Areas = [][]byte{area2}
	hears(t, d, 0, l)
	d.Tick()
	if l := held(t, d, 1, id(1, 0)); l.Attached != [2]bool{} {
		t.Errorf("%v is told", l)
	}
}

// down answers l with a prefix that was told down.
func down(l api.LSP, text string, metric uint32) api.LSP {
	p := net(text)
	t := int(p.Fam-4) / 2
	l.Reach[t] = append(l.Reach[t], api.Reach{Prefix: p, Metric: metric, Down: true})
	return l
}

// What level 1 has is told at level 2, what was told down isn't; of one prefix the first alone, so the own one.
func TestTellUp(t *testing.T) {
	c := conf(api.Both, 1)
	c.Owns = []api.Own{{Prefix: net("10.3.0.0/16"), Metric: 1, Level: api.L2}}
	d := make1(t, c)
	meet(t, d, 0, 2)
	hears(t, d, 0, down(tells(say(1, 2, 1, 1), "10.3.0.0/16", "10.2.0.0/16", "2001:db8::/32"), "10.4.0.0/16", 1), down(say(1, 2, 0), "10.9.0.0/16", 1))
	d.Tick() // one settling is enough
	want := [2][]api.Reach{{{Prefix: net("10.3.0.0/16"), Metric: 1}, {Prefix: net("10.2.0.0/16"), Metric: 15}}, {{Prefix: net("2001:db8::/32"), Metric: 25}}}
	if l := held(t, d, 2, id(1, 0)); !same(l.Reach, want) {
		t.Errorf("%v is told; want %v", l.Reach, want)
	}
	if l := held(t, d, 1, id(1, 0)); !same(l.Reach, [2][]api.Reach{}) {
		t.Errorf("%v is told", l.Reach)
	}
	link(t, d, 0, false)
	d.Tick()
	if l := held(t, d, 2, id(1, 0)); !same(l.Reach, [2][]api.Reach{want[0][:1], nil}) {
		t.Errorf("%v is told", l.Reach)
	}
}

// A router of one level passes nothing on.
func TestTellOfOneLevel(t *testing.T) {
	for level := api.L1; level <= api.L2; level++ {
		c := conf(level, 1)
		c.Leak = []api.Prefix{net("0.0.0.0/0")}
		d := make1(t, c)
		meet(t, d, 0, 2)
		hears(t, d, 0, tells(say(level, 2, 1, 1), "10.2.0.0/16"))
		d.Tick()
		if l := held(t, d, level, id(1, 0)); !same(l.Reach, [2][]api.Reach{}) || len(d.Routes(0)) != 1 {
			t.Errorf("%v is told", l.Reach)
		}
	}
}

// What level 2 has is told at level 1 as down, if it lies within a leak and no better route has its prefix.
func TestTellDown(t *testing.T) {
	c := conf(api.Both, 1)
	c.Leak = []api.Prefix{net("10.0.0.0/8"), net("10.2.0.0/15"), net("2001:db8::/32")}
	c.Owns = []api.Own{{Prefix: net("10.3.0.0/16"), Metric: 1, Level: api.L2}, {Prefix: net("10.8.0.0/16"), Metric: 2, Level: api.L1}}
	d := make1(t, c)
	meet(t, d, 0, 2)
	hears(t, d, 0,
		tells(say(2, 2, 1, 1), "10.3.0.0/16", "10.2.0.0/16", "11.0.0.0/8", "10.8.0.0/16", "10.9.0.0/16", "2001:db8:1::/48", "2001::/16"),
		down(tells(say(1, 2, 1, 1), "10.9.0.0/16"), "10.7.0.0/16", 1))
	d.Tick()
	want := [2][]api.Reach{{{Prefix: net("10.8.0.0/16"), Metric: 2}, {Prefix: net("10.2.0.0/16"), Metric: 15, Down: true}}, {{Prefix: net("2001:db8:1::/48"), Metric: 25, Down: true}}}
	if l := held(t, d, 1, id(1, 0)); !same(l.Reach, want) {
		t.Errorf("%v is told; want %v", l.Reach, want)
	}
	// Without leaks nothing goes down.
	c.Leak = nil
	if e := d.Configure(c); e != api.OK {
		t.Fatal(e)
	}
	meet(t, d, 0, 2)
	d.Tick()
	if l := held(t, d, 1, id(1, 0)); !same(l.Reach, [2][]api.Reach{want[0][:1], nil}) {
		t.Errorf("%v is told", l.Reach)
	}
}

// What is more than can be told isn't told at all; it ends, and comes again when there is less.
func TestTellTooMuch(t *testing.T) {
	d := make1(t, conf(api.Both, 1))
	meet(t, d, 0, 2)
	for frag := range 16 {
		p := pdu.PDU{Kind: 18, Life: 9, ID: id(2, byte(frag)), Seq: 1, Bits: 1}
		if frag == 0 {
			p = lspPacket(t, say(1, 2, 1, 1))
			p.Life = 90
		}
		for i := range 5 {
			var value []byte
			for k := range 28 {
				value = append(value, 0, 0, 0, 1, 32, 10, byte(frag), byte(i), byte(k))
			}
			p.TLVs = append(p.TLVs, api.TLV{Type: 135, Value: value})
		}
		receive(t, d, 0, write(t, p), api.OK)
	}
	d.Tick()
	if len(d.Routes(0)) != 16*5*28 {
		t.Fatalf("there are %d routes", len(d.Routes(0)))
	}
	for _, e := range d.Entries(2) {
		if e.Life != 0 {
			t.Errorf("it tells %v", e)
		}
	}
	wait(d, 8)
	if e := d.Entries(2); len(d.Routes(0)) != 5*28 || len(e) != 18 || e[0].Life != api.MaxAge || e[0].Seq != 3 {
		t.Errorf("it tells %v", e)
	}
}
