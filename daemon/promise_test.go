package daemon_test

import (
	"bytes"
	"math/rand"
	"slices"
	"testing"

	"waymark/api"
	"waymark/daemon"
)

// P3 to P8: of several routers, whatever becomes of their packets, some ticks behind the last that has.

const (
	noise = 120 // ticks in which things become of packets, cables and routers
	quiet = 60  // ticks behind that
)

// someConf answers the configuration of a router among some.
func someConf(r *rand.Rand, i int, secret []byte) api.Config {
	c := api.Config{Level: []int{1, 2, 3, 3}[r.Intn(4)], Overload: r.Intn(12) == 0}
	c.Areas = [][]byte{{0x49, byte(r.Intn(5) / 3)}}
	if r.Intn(8) == 0 {
		c.Areas = append(c.Areas, []byte{0x49, 2})
	}
	for range api.MaxCircuits {
		l := api.Link{Level: []int{1, 2, 3, 3, 3, 3, 3, 3}[r.Intn(8)]}
		for t := range 2 {
			l.Metric[t] = uint32(1 + r.Intn(4))
			if r.Intn(20) == 0 {
				l.Metric[t] = []uint32{0, api.MaxLink}[r.Intn(2)]
			}
		}
		c.Links = append(c.Links, l)
	}
	for k := range 1 + r.Intn(4) {
		p := api.Prefix{Fam: 4, Len: 16, Addr: [16]byte{10, byte(i), 0}}
		switch r.Intn(5) {
		case 0:
			p.Fam, p.Len = 6, 48
		case 1:
			p.Addr[1] = byte(r.Intn(7)) // it may be somebody else's, too
		case 2:
			p.Len, p.Addr[2] = 24, byte(k)
		}
		if !slices.ContainsFunc(c.Owns, func(o api.Own) bool { return o.Prefix == p }) {
			c.Owns = append(c.Owns, api.Own{Prefix: p, Metric: uint32(r.Intn(5)), Level: 1 + r.Intn(3)})
		}
	}
	if r.Intn(2) == 0 {
		c.Leak = []api.Prefix{net("10.0.0.0/14"), net("a00::/7")}
	}
	if secret != nil {
		c.Keys = []api.Key{{ID: 4, Secret: secret}}
	}
	return c
}

// someWorld answers routers, most of which are joined.
func someWorld(t *testing.T, r *rand.Rand, secret []byte) *world {
	t.Helper()
	count := 2 + r.Intn(5)
	var confs []api.Config
	for i := range count {
		confs = append(confs, someConf(r, i, secret))
	}
	used := make([]int, count)
	var cables []cable
	for k := range count + r.Intn(2*count) {
		a, b := k%count, r.Intn(count)
		if a == b || used[a] == api.MaxCircuits || used[b] == api.MaxCircuits {
			continue
		}
		cables = append(cables, cable{a, used[a], b, used[b]})
		used[a]++
		used[b]++
	}
	return newWorld(t, confs, cables)
}

// happens makes something become of a cable or a router now and then.
func (w *world) happens(r *rand.Rand) {
	if len(w.cables) == 0 || r.Intn(6) > 0 {
		return
	}
	switch i := r.Intn(len(w.routers)); r.Intn(5) {
	case 0:
		w.set(r.Intn(len(w.cables)), false)
	case 1, 2:
		w.set(r.Intn(len(w.cables)), true)
	case 3:
		w.restart(i)
	case 4:
		c := someConf(r, i, nil)
		c.Sys, c.Level, c.Keys = w.confs[i].Sys, w.confs[i].Level, w.confs[i].Keys
		if e := w.routers[i].Configure(c); e != api.OK {
			w.t.Fatal(e)
		}
		w.confs[i] = c
	}
}

// adjacent looks at whether both sides of each cable that is up know one another, at the levels that they have in common.
func (w *world) adjacent() {
	w.t.Helper()
	g := w.up()
	for k, c := range w.cables {
		a, b := adjacency(w.t, w.routers[c.a], c.ca), adjacency(w.t, w.routers[c.b], c.cb)
		if w.cut[k] || g.levels(c) == 0 {
			if a.State != api.Down || b.State != api.Down {
				w.t.Errorf("over the cable %d there are %v and %v", k, a, b)
			}
			continue
		}
		if a.State != api.Up || b.State != api.Up || a.Level != g.levels(c) || b.Level != a.Level || a.Peer != sys(byte(c.b+1)) || b.Peer != sys(byte(c.a+1)) || int(a.Number) != c.cb || int(b.Number) != c.ca {
			w.t.Errorf("over the cable %d there are %v and %v", k, a, b)
		}
	}
}

// words answers what a router holds of a level, purges aside.
func words(d *daemon.Daemon, level int) map[api.LSPID][2]uint32 {
	found := map[api.LSPID][2]uint32{}
	for _, entry := range d.Entries(level) {
		if entry.Life > 0 {
			found[entry.ID] = [2]uint32{entry.Seq, uint32(entry.Sum)}
		}
	}
	return found
}

// agrees looks at whether neighbours hold the same.
func (w *world) agrees() {
	w.t.Helper()
	g := w.up()
	for _, c := range g.cables {
		for level := 1; level <= 2; level++ {
			a, b := words(w.routers[c.a], level), words(w.routers[c.b], level)
			if g.levels(c)&level != 0 && !same2(a, b) {
				w.t.Errorf("at level %d neighbours hold %v and %v", level, a, b)
			}
		}
	}
}

// same2 tells whether two maps are equal.
func same2(a, b map[api.LSPID][2]uint32) bool {
	for is, x := range a {
		if b[is] != x {
			return false
		}
	}
	return len(a) == len(b)
}

// routed looks at whether all have the routes that the graph makes.
func (w *world) routed() {
	w.t.Helper()
	g := w.up()
	for t := range 2 {
		for i, want := range g.routes(t) {
			if got := w.routers[i].Routes(t); !same(got, want) {
				w.t.Errorf("the router %d has for %d the routes\n%v; want\n%v", i+1, t, got, want)
			}
		}
	}
}

// walker goes over all hops that a packet may take.
type walker struct {
	w     *world
	fam   byte
	addr  [16]byte
	state []int // 1: on the way; 2: left behind
	round bool
	stray bool
}

// from goes on from the router i.
func (x *walker) from(i int, owed bool) {
	if x.state[i] > 0 {
		x.round = x.round || x.state[i] == 1
		return
	}
	r, ok, _ := x.w.routers[i].Find(x.fam, x.addr)
	if !ok {
		x.stray = x.stray || owed
		return
	}
	x.state[i] = 1
	for _, h := range r.Hops {
		x.from(int(h.To[5])-1, owed || r.Kind != api.RouteDefault)
	}
	x.state[i] = 2
}

// lands looks at whether no packet to somebody's prefix goes round, or astray.
func (w *world) lands() {
	w.t.Helper()
	for i := range w.routers {
		for _, c := range w.confs {
			for _, o := range c.Owns {
				x := &walker{w: w, fam: o.Prefix.Fam, addr: o.Prefix.Addr, state: make([]int, len(w.routers))}
				x.addr[3] = 9
				x.from(i, false)
				if x.round || x.stray {
					w.t.Errorf("a packet from %d to %v goes round: %t, astray: %t", i+1, o.Prefix, x.round, x.stray)
				}
			}
		}
	}
}

// TestPromises: adjacencies are up on both sides, neighbours hold the same, routes are the graph's, no packet goes round.
func TestPromises(t *testing.T) {
	for seed := range 100 {
		r := rand.New(rand.NewSource(int64(seed)))
		var secret []byte
		if seed%3 == 0 {
			secret = []byte("secret")
		}
		w := someWorld(t, r, secret)
		for range r.Intn(3) {
			for range noise {
				w.happens(r)
				w.tick(r)
			}
			w.rest(quiet)
		}
		w.rest(quiet)
		w.adjacent()
		w.agrees()
		w.routed()
		w.lands()
		if t.Failed() {
			t.Fatalf("in the world %d", seed)
		}
	}
}

// P7: what a router holds of another one that one has told, in these words; who signs with another key is not heard.
func TestNobodyMakesUpAnothersWord(t *testing.T) {
	for seed := range 20 {
		r := rand.New(rand.NewSource(int64(1970 + seed)))
		w := someWorld(t, r, []byte("secret"))
		forger := make1(t, api.Config{Sys: sys(99), Level: 3, Areas: [][]byte{{0x49, 0}, {0x49, 1}}, Links: []api.Link{{Level: 3, Metric: [2]uint32{1, 1}}}, Keys: []api.Key{{ID: 5, Secret: []byte("secret")}}})
		link(t, forger, 0, true)
		told := map[string]struct{}{}
		for range 200 {
			w.happens(r)
			w.tick(r)
			for _, p := range forger.Tick() {
				for _, d := range w.routers {
					for c := range 8 {
						if e := d.Receive(c, p.Bytes); e != api.ErrKey && e != api.ErrState {
							t.Fatalf("a forged packet: %d", e)
						}
					}
				}
			}
			w.each(func(i, level int, is api.LSPID, word string) {
				if is.Node.Sys == sys(byte(i+1)) {
					told[word] = struct{}{}
				}
			})
			w.each(func(i, level int, is api.LSPID, word string) {
				if _, known := told[word]; !known {
					t.Fatalf("the world %d: the router %d holds of %v what that one hasn't told: %x", seed, i+1, is, word)
				}
			})
		}
	}
}

// each goes through all LSPs that are held; their words are all bytes but those of the Life.
func (w *world) each(see func(i, level int, is api.LSPID, word string)) {
	for i, d := range w.routers {
		for level := 1; level <= 2; level++ {
			for _, entry := range d.Entries(level) {
				b, _ := d.LSP(level, entry.ID)
				see(i, level, entry.ID, string(bytes.Join([][]byte{b[:10], b[12:]}, nil)))
			}
		}
	}
}

// P8: who has lost all is one of all again, and is heard at once with a number that is greater than its old ones.
func TestWhoComesBackIsHeard(t *testing.T) {
	confs := []api.Config{conf(api.L2, 2), conf(api.L2, 2), conf(api.L2, 2)}
	for i := range confs {
		confs[i].Owns = []api.Own{{Prefix: api.Prefix{Fam: 4, Len: 16, Addr: [16]byte{10, byte(i + 1)}}, Metric: 1, Level: 2}}
	}
	w := newWorld(t, confs, []cable{{0, 0, 1, 0}, {1, 1, 2, 0}})
	w.rest(40)
	for n := range 5 {
		w.confs[2].Host = string(rune('a' + n)) // another word than ahead of it
		w.restart(2)
		if len(w.routers[2].Routes(0)) != 1 {
			t.Errorf("Routes = %v", w.routers[2].Routes(0))
		}
		w.rest(25)
		w.adjacent()
		w.agrees()
		w.routed()
		if l := held(t, w.routers[0], 2, id(3, 0)); l.Host != w.confs[2].Host || len(w.routers[0].Routes(0)) != 3 {
			t.Errorf("%v is held, of %v", l, w.routers[0].Routes(0))
		}
	}
}

// The whole's sixth and ninth example: a square has two ways; a cable is cut: behind the next tick there is another way, or none.
func TestSquare(t *testing.T) {
	var confs []api.Config
	for i := range 4 {
		c := conf(api.L2, 2)
		c.Links[0].Metric = [2]uint32{10, 10}
		c.Links[1].Metric = [2]uint32{10, 10}
		c.Owns = []api.Own{{Prefix: api.Prefix{Fam: 4, Len: 16, Addr: [16]byte{10, byte(i + 1)}}, Metric: 1, Level: 2}}
		confs = append(confs, c)
	}
	w := newWorld(t, confs, []cable{{0, 0, 1, 0}, {1, 1, 2, 0}, {2, 1, 3, 0}, {3, 1, 0, 1}})
	w.rest(20)
	d := w.routers[0]
	routesAre(t, d, 0, way("10.1.0.0/16", api.RouteLocal, 1), way("10.2.0.0/16", api.RouteL2, 11, hop(0, 2)),
		way("10.3.0.0/16", api.RouteL2, 21, hop(0, 2), hop(1, 4)), way("10.4.0.0/16", api.RouteL2, 11, hop(1, 4)))
	w.set(0, false)
	w.tick(nil)
	routesAre(t, d, 0, way("10.1.0.0/16", api.RouteLocal, 1), way("10.2.0.0/16", api.RouteL2, 31, hop(1, 4)),
		way("10.3.0.0/16", api.RouteL2, 21, hop(1, 4)), way("10.4.0.0/16", api.RouteL2, 11, hop(1, 4)))
	w.set(3, false)
	w.tick(nil)
	routesAre(t, d, 0, way("10.1.0.0/16", api.RouteLocal, 1))
}

// A router that settles only when something has changed does the very same as one that settles at each tick.
func TestSettledWhenSomethingHasChanged(t *testing.T) {
	for seed := range 2 {
		r := rand.New(rand.NewSource(int64(1930 + seed)))
		w, twin := someWorld(t, r, nil), (*world)(nil)
		r = rand.New(rand.NewSource(int64(1930 + seed)))
		twin = someWorld(t, r, nil)
		one, two := rand.New(rand.NewSource(5)), rand.New(rand.NewSource(5))
		for i := range 1400 {
			if i < 200 || i > 1150 {
				w.happens(one)
				twin.happens(two)
			}
			for _, d := range twin.routers {
				daemon.Stir(d)
			}
			if i < 250 {
				w.tick(one)
				twin.tick(two)
			} else {
				w.tick(nil)
				twin.tick(nil)
			}
			for k, d := range w.routers {
				for n := range 2 {
					if !same(d.Routes(n), twin.routers[k].Routes(n)) || !slices.Equal(d.Entries(n+1), twin.routers[k].Entries(n+1)) {
						t.Fatalf("the world %d: at %d the router %d has\n%v\n%v; want\n%v\n%v", seed, i, k+1, d.Routes(n), d.Entries(n+1), twin.routers[k].Routes(n), twin.routers[k].Entries(n+1))
					}
				}
			}
		}
	}
}
