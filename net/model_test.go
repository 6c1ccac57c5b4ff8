package net_test

import (
	"bytes"
	"math"
	"math/rand"
	"slices"
	"testing"

	"waymark/api"
	"waymark/daemon"
	"waymark/net"
)

// crossing is bytes that a router has sent over a circuit.
type crossing struct {
	router, circuit int
	bytes           []byte
}

// model does by hand what a net does.
type model struct {
	t       *testing.T
	confs   []api.Config
	cables  []net.Cable
	cut     []bool
	routers []*daemon.Daemon
	late    []crossing
}

// newModel answers one of the same routers and cables as a net.
func newModel(t *testing.T, confs []api.Config, cables []net.Cable) *model {
	t.Helper()
	m := &model{t: t, confs: slices.Clone(confs), cables: cables, cut: make([]bool, len(cables)), routers: make([]*daemon.Daemon, len(confs))}
	for i := range confs {
		m.restart(i)
	}
	return m
}

// restart makes a router anew.
func (m *model) restart(i int) {
	d, e := daemon.New(m.confs[i])
	if e != api.OK {
		m.t.Fatal(e)
	}
	m.routers[i] = d
	for k, c := range m.cables {
		if c.A == i && !m.cut[k] {
			d.Link(c.CA, true)
		}
		if c.B == i && !m.cut[k] {
			d.Link(c.CB, true)
		}
	}
}

// do makes an event happen that is in form.
func (m *model) do(e net.Event) api.Errno {
	switch e.Kind {
	case net.Tick:
		m.tick(e.Fates)
	case net.Cut, net.Mend:
		if m.cut[e.N] == (e.Kind == net.Cut) {
			return api.ErrState
		}
		m.cut[e.N] = !m.cut[e.N]
		c := m.cables[e.N]
		m.routers[c.A].Link(c.CA, !m.cut[e.N])
		m.routers[c.B].Link(c.CB, !m.cut[e.N])
	case net.Restart:
		m.restart(e.N)
	case net.Configure:
		f := m.routers[e.N].Configure(e.Conf)
		if f == api.OK {
			m.confs[e.N] = e.Conf
		}
		return f
	}
	return api.OK
}

// tick lets a tick go by.
func (m *model) tick(fates []net.Fate) {
	list := slices.Clone(m.late)
	m.late = nil
	for i, d := range m.routers {
		for _, p := range d.Tick() {
			list = append(list, crossing{i, p.Circuit, p.Bytes})
		}
	}
	fates = append(slices.Clone(fates), make([]net.Fate, len(list))...)
	for i, x := range list {
		d, c := m.far(x)
		if d == nil {
			continue
		}
		switch fates[i].How % 5 {
		case 0:
			d.Receive(c, x.bytes)
		case 2:
			d.Receive(c, x.bytes)
			d.Receive(c, x.bytes)
		case 3:
			m.late = append(m.late, x)
		case 4:
			b := slices.Clone(x.bytes)
			b[max(0, fates[i].At)%len(b)] ^= fates[i].By
			d.Receive(c, b)
		}
	}
}

// far answers the router and the circuit to which bytes come; nil: they don't.
func (m *model) far(x crossing) (*daemon.Daemon, int) {
	for k, c := range m.cables {
		switch {
		case m.cut[k]:
		case c.A == x.router && c.CA == x.circuit:
			return m.routers[c.B], c.CB
		case c.B == x.router && c.CB == x.circuit:
			return m.routers[c.A], c.CA
		}
	}
	return nil, 0
}

// agrees tells whether neighbours hold the same.
func (m *model) agrees(level int) bool {
	for k, c := range m.cables {
		a, _ := m.routers[c.A].Adjacency(c.CA)
		b, _ := m.routers[c.B].Adjacency(c.CB)
		if m.cut[k] || a.State != api.Up || b.State != api.Up || a.Level&b.Level&level == 0 {
			continue
		}
		words := [2]map[api.LSPID][2]uint32{{}, {}}
		for i, d := range []*daemon.Daemon{m.routers[c.A], m.routers[c.B]} {
			for _, entry := range d.Entries(level) {
				if entry.Life != 0 {
					words[i][entry.ID] = [2]uint32{entry.Seq, uint32(entry.Sum)}
				}
			}
		}
		if !same2(words[0], words[1]) {
			return false
		}
	}
	return true
}

// same2 tells whether two maps are equal.
func same2(a, b map[api.LSPID][2]uint32) bool {
	for is, x := range a {
		if y, known := b[is]; !known || x != y {
			return false
		}
	}
	return len(a) == len(b)
}

// holds looks at whether a net answers what the model does.
func (m *model) holds(n *net.Net) {
	m.t.Helper()
	for i, d := range m.routers {
		for k := range 2 {
			if list := routes(m.t, n, i, k); !same(list, d.Routes(k)) {
				m.t.Fatalf("Routes(%d, %d) = %v; want %v", i, k, list, d.Routes(k))
			}
			list := entries(m.t, n, i, k+1)
			if !slices.Equal(list, d.Entries(k+1)) {
				m.t.Fatalf("Entries(%d, %d) = %v; want %v", i, k+1, list, d.Entries(k+1))
			}
			for _, entry := range list {
				b, e := n.LSP(i, k+1, entry.ID)
				want, _ := d.LSP(k+1, entry.ID)
				if e != api.OK || !bytes.Equal(b, want) {
					m.t.Fatalf("LSP(%d, %d, %v) = %x, %d; want %x", i, k+1, entry.ID, b, e, want)
				}
			}
		}
	}
	for k, c := range m.cables {
		isJoined(m.t, n, c, !m.cut[k])
	}
	agrees(m.t, n, m.agrees(1), m.agrees(2))
}

// someConf answers the configuration of the router at the place i among some.
func someConf(r *rand.Rand, i int, secret []byte) api.Config {
	c := conf(i, []int{1, 2, 3, 3}[r.Intn(4)], 0)
	c.Areas = [][]byte{{0x49, byte(r.Intn(5) / 3)}}
	c.Overload = r.Intn(12) == 0
	for range 6 {
		m := uint32(1 + r.Intn(4))
		c.Links = append(c.Links, api.Link{Level: []int{1, 2, 3, 3, 3, 3}[r.Intn(6)], Metric: [2]uint32{m, 5 - m}})
	}
	if r.Intn(2) == 0 {
		p := api.Prefix{Fam: 6, Len: 48, Addr: [16]byte{0xfd, byte(r.Intn(9))}}
		c.Owns = append(c.Owns, api.Own{Prefix: p, Metric: uint32(r.Intn(5)), Level: 1 + r.Intn(3)})
	}
	if r.Intn(2) == 0 {
		c.Leak = []api.Prefix{{Fam: 4}, {Fam: 6}}
	}
	if secret != nil {
		c.Keys = []api.Key{{ID: 4, Secret: secret}}
	}
	return c
}

// someNet answers routers and cables, of which some join two circuits of one router.
func someNet(r *rand.Rand, secret []byte) ([]api.Config, []net.Cable) {
	var confs []api.Config
	for i := range 2 + r.Intn(5) {
		confs = append(confs, someConf(r, i, secret))
	}
	count := len(confs)
	used := make([]int, count)
	var cables []net.Cable
	for k := range count + r.Intn(2*count) {
		a, b := k%count, r.Intn(count)
		if used[a] > 4 || used[b] > 4 || a == b && r.Intn(3) > 0 {
			continue
		}
		c := net.Cable{A: a, CA: used[a], B: b}
		used[a]++
		c.CB = used[b]
		used[b]++
		cables = append(cables, c)
	}
	return confs, cables
}

// someEvent answers what happens next: often a tick.
func someEvent(r *rand.Rand, confs []api.Config, cables int) net.Event {
	if r.Intn(8) > 0 {
		return net.Event{Kind: net.Tick, Fates: someFates(r)}
	}
	i := r.Intn(len(confs))
	kind := byte(net.Cut + r.Intn(4))
	switch {
	case kind == net.Configure:
		c := someConf(r, i, nil)
		c.Keys = confs[i].Keys
		if r.Intn(8) > 0 {
			c.Level = confs[i].Level
		}
		return net.Event{Kind: net.Configure, N: i, Conf: c}
	case kind == net.Restart || cables == 0:
		return net.Event{Kind: net.Restart, N: i}
	}
	return net.Event{Kind: kind, N: r.Intn(cables)}
}

// someFates answers some, most of which let a packet come.
func someFates(r *rand.Rand) []net.Fate {
	fates := make([]net.Fate, r.Intn(60))
	for i := range fates {
		f := &fates[i]
		f.How = byte(5 * r.Intn(51))
		if r.Intn(2) == 0 {
			f.How = byte(r.Intn(256))
		}
		f.At, f.By = r.Intn(2000)-20, byte(1<<r.Intn(8))
		if r.Intn(50) == 0 {
			f.At = []int{math.MinInt, math.MaxInt}[r.Intn(2)]
		}
	}
	return fates
}

// A net answers what its routers answer when they are told by hand what the chapter's words say.
func TestModel(t *testing.T) {
	for seed := range 60 {
		r := rand.New(rand.NewSource(int64(2000 + seed)))
		var secret []byte
		if seed%3 == 0 {
			secret = []byte("secret")
		}
		confs, cables := someNet(r, secret)
		n, m := build(t, confs, cables), newModel(t, confs, cables)
		for range 150 {
			e := someEvent(r, m.confs, len(cables))
			want := m.do(e)
			does(t, n, e, want)
			m.holds(n)
		}
		if t.Failed() {
			t.Fatalf("the net %d", seed)
		}
	}
}
