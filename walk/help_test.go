package walk_test

import (
	"math/rand"
	"slices"
	"testing"

	"waymark/api"
	"waymark/net"
	"waymark/walk"
)

// of answers an address within the prefix of the router at the place i.
func of(i int) [16]byte {
	return [16]byte{10, byte(i + 1), 2, 3}
}

// conf answers the configuration of the router at the place i, of level 2, with a prefix of each family and as many circuits as there may be.
func conf(i int) api.Config {
	c := api.Config{Sys: api.SysID{5: byte(i + 1)}, Level: api.L2, Areas: [][]byte{{0x49, 1}}}
	for _, p := range []api.Prefix{
		{Fam: 4, Len: 16, Addr: [16]byte{10, byte(i + 1)}},
		{Fam: 6, Len: 16, Addr: [16]byte{0xfd, byte(i + 1)}},
	} {
		c.Owns = append(c.Owns, api.Own{Prefix: p, Metric: 1, Level: api.Both})
	}
	for range api.MaxCircuits {
		c.Links = append(c.Links, api.Link{Level: api.Both, Metric: [2]uint32{10, 10}})
	}
	return c
}

// plan is routers, and the cables between them.
type plan struct {
	confs  []api.Config
	cables []net.Cable
	used   []int // circuits of each router
}

// planOf answers one of so many routers, and a cable between each of these pairs; their circuits are used in order.
func planOf(count int, pairs ...[2]int) *plan {
	p := &plan{used: make([]int, count)}
	for i := range count {
		p.confs = append(p.confs, conf(i))
	}
	for _, pair := range pairs {
		p.join(pair[0], pair[1], 10)
	}
	return p
}

// join lays a cable of that metric between two routers.
func (p *plan) join(a, b int, metric uint32) {
	c := net.Cable{A: a, CA: p.used[a], B: b}
	p.used[a]++
	c.CB = p.used[b]
	p.used[b]++
	p.cables = append(p.cables, c)
	p.confs[a].Links[c.CA].Metric = [2]uint32{metric, metric}
	p.confs[b].Links[c.CB].Metric = [2]uint32{metric, metric}
}

// build answers the net of the plan, at rest.
func (p *plan) build(t *testing.T) *net.Net {
	t.Helper()
	n, e := net.New(p.confs, p.cables)
	if e != api.OK {
		t.Fatal(e)
	}
	rest(n, 30)
	return n
}

// rest lets so many ticks go by.
func rest(n *net.Net, ticks int) {
	for range ticks {
		n.Do(net.Event{Kind: net.Tick})
	}
}

// deafen lets a tick go by in which no packet comes.
func deafen(n *net.Net) {
	n.Do(net.Event{Kind: net.Tick, Fates: slices.Repeat([]net.Fate{{How: 1}}, 1000)})
}

// do makes something become of a cable.
func do(t *testing.T, n *net.Net, kind byte, cable int) {
	t.Helper()
	if e := n.Do(net.Event{Kind: kind, N: cable}); e != api.OK {
		t.Fatalf("Do(%d, %d): %d", kind, cable, e)
	}
}

// goes looks at what Go answers for IPv4.
func goes(t *testing.T, n *net.Net, from int, addr [16]byte, picks []uint32, end int, routers ...int) {
	t.Helper()
	goesBy(t, n, from, 4, addr, picks, end, routers...)
}

// goesBy looks at what Go answers for a family.
func goesBy(t *testing.T, n *net.Net, from int, fam byte, addr [16]byte, picks []uint32, end int, routers ...int) {
	t.Helper()
	trail, e := walk.Go(n, from, fam, addr, picks)
	if !slices.Equal(trail.Routers, routers) || trail.End != end || e != api.OK {
		t.Errorf("Go(%d, %d, %v, %v) = %v, %d; want %v, %d", from, fam, addr, picks, trail, e, routers, end)
	}
}

// spreads looks at what Spread answers for IPv4.
func spreads(t *testing.T, n *net.Net, from int, addr [16]byte, once bool, routers ...int) {
	t.Helper()
	list, ok, e := walk.Spread(n, from, 4, addr)
	if !slices.Equal(list, routers) || ok != once || e != api.OK {
		t.Errorf("Spread(%d, %v) = %v, %t, %d; want %v, %t", from, addr, list, ok, e, routers, once)
	}
}

// someNet answers a net of some routers with some cables, at rest.
func someNet(t *testing.T, r *rand.Rand) (*net.Net, *plan) {
	t.Helper()
	count := 3 + r.Intn(4)
	p := planOf(count)
	for i := range p.confs {
		p.confs[i].Level = []int{api.L2, api.Both, api.Both, api.L1}[r.Intn(4)]
		p.confs[i].Areas = [][]byte{{0x49, byte(r.Intn(5) / 3)}}
		if r.Intn(3) == 0 {
			p.confs[i].Leak = []api.Prefix{{Fam: 4}}
		}
	}
	for range 2*count + r.Intn(3) {
		a, b := r.Intn(count), r.Intn(count)
		if a != b && p.used[a] < api.MaxCircuits && p.used[b] < api.MaxCircuits {
			p.join(a, b, uint32(1+r.Intn(3)))
		}
	}
	return p.build(t), p
}

// disturb makes something happen to the net: cables are cut and mended, routers lose all, packets are lost.
func disturb(n *net.Net, r *rand.Rand, p *plan) {
	switch r.Intn(5) {
	case 0:
		n.Do(net.Event{Kind: net.Restart, N: r.Intn(len(p.confs))})
	case 1:
		fates := make([]net.Fate, 200)
		for i := range fates {
			fates[i].How = byte(r.Intn(5) / 2)
		}
		n.Do(net.Event{Kind: net.Tick, Fates: fates})
	case 2:
		deafen(n)
	default:
		if len(p.cables) > 0 {
			n.Do(net.Event{Kind: byte(net.Cut + r.Intn(2)), N: r.Intn(len(p.cables))})
		}
	}
}
