package inter_test

import (
	"math"
	"slices"
	"testing"

	"waymark/api"
	"waymark/inter"
)

// routesAre looks at what Routes answers of IPv4 from the router 1 on at level 1, whichever way round all stands.
func routesAre(t *testing.T, list []api.LSP, near []inter.Near, want ...api.Route) {
	t.Helper()
	levelIs(t, 1, list, near, want...)
}

// levelIs looks at what Routes answers of IPv4 from the router 1 on at a level.
func levelIs(t *testing.T, level int, list []api.LSP, near []inter.Near, want ...api.Route) {
	t.Helper()
	turned, round := slices.Clone(list), slices.Clone(near)
	slices.Reverse(turned)
	slices.Reverse(round)
	for range 2 {
		if got, e := inter.Routes(sys(1), level, 0, list, near); !sameRoutes(got, want) || e != api.OK {
			t.Errorf("Routes at level %d = %v, %d; want %v", level, got, e, want)
		}
		list, near = turned, round
	}
}

// routesFail looks at the error that Routes answers.
func routesFail(t *testing.T, level, topology int, list []api.LSP, near []inter.Near, want api.Errno) {
	t.Helper()
	if got, e := inter.Routes(sys(1), level, topology, list, near); len(got) != 0 || e != want {
		t.Errorf("Routes(%d, %d, %d LSPs, %d Nears) = %v, %d; want %d", level, topology, len(list), len(near), got, e, want)
	}
}

// pair answers what two routers tell: the router 2 is 10 away, and tells these.
func pair(things ...api.Reach) tells {
	var l tells
	l.link(router(1), router(2), 10)
	l.tell(2, 0, things...)
	return l
}

// P16.1

func TestRoutesExample(t *testing.T) {
	l := pair(thing("10.2.0.0/16", 5))
	routesAre(t, l, []inter.Near{over(0, 2, 10)}, route("10.2.0.0/16", api.RouteL1, 15, hop(0, 2)))
	routesAre(t, l, []inter.Near{over(0, 2, 10), over(1, 2, 12)}, route("10.2.0.0/16", api.RouteL1, 15, hop(0, 2)))
	levelIs(t, 2, l, []inter.Near{over(0, 2, 10)}, route("10.2.0.0/16", api.RouteL2, 15, hop(0, 2)))
}

func TestNoRoutes(t *testing.T) {
	near := []inter.Near{over(0, 2, 10)}
	routesAre(t, nil, near)
	routesAre(t, []api.LSP{}, nil)
	routesAre(t, pair(), near)
	routesAre(t, []api.LSP{frag(1, 0, thing("10.0.0.0/8", 1)), frag(2, 0, thing("10.0.0.0/8", 1))}, near)
	// The root's own things are no routes; nor are a pseudonode's.
	l := pair()
	l.tell(1, 0, thing("10.1.0.0/16", 5))
	l.link(router(1), api.Node{Sys: sys(2), Pseudo: 1}, 3)
	l.link(router(2), api.Node{Sys: sys(2), Pseudo: 1}, 3)
	l.at(api.Node{Sys: sys(2), Pseudo: 1}).Reach[0] = []api.Reach{thing("10.2.0.0/16", 5)}
	routesAre(t, l, near)
}

// Each topology has paths, prefixes and circuits of its own.
func TestRoutesOfIPv6(t *testing.T) {
	l := square()
	l.tell(4, 0, thing("10.4.0.0/16", 1))
	l.tell(4, 1, thing("2001:db8::/32", 2), down("::/0", 3))
	l.at(router(2)).Edges[1][0].Metric = api.MaxLink
	l.at(router(2)).Attached[1] = true
	near := []inter.Near{
		{Circuit: 0, To: sys(2), Metric: [2]uint32{10, 10}},
		{Circuit: 1, To: sys(3), Metric: [2]uint32{10, 12}},
		{Circuit: 2, To: sys(3), Metric: [2]uint32{12, 10}},
	}
	routesAre(t, l, near, route("10.4.0.0/16", api.RouteL1, 16, hop(0, 2), hop(1, 3)))
	for level, kinds := range map[int][2]int{1: {api.RouteDown, api.RouteL1}, 2: {api.RouteL2, api.RouteL2}} {
		got, e := inter.Routes(sys(1), level, 1, l, near)
		want := []api.Route{route("::/0", kinds[0], 18, hop(2, 3)), route("2001:db8::/32", kinds[1], 17, hop(2, 3))}
		if !sameRoutes(got, want) || e != api.OK {
			t.Errorf("Routes of IPv6 at level %d = %v, %d; want %v", level, got, e, want)
		}
	}
}

// Any router can be the root.
func TestRoutesFromOthers(t *testing.T) {
	l := square()
	l.tell(1, 0, thing("10.1.0.0/16", 1))
	for n, want := range map[int][]api.Route{
		2: {route("10.1.0.0/16", api.RouteL1, 11, hop(0, 1))},
		4: {route("10.1.0.0/16", api.RouteL1, 16, hop(1, 2), hop(2, 3))},
		5: nil,
	} {
		got, e := inter.Routes(sys(n), 1, 0, l, []inter.Near{over(0, 1, 10), over(1, 2, 5), over(2, 3, 5)})
		if !sameRoutes(got, want) || e != api.OK {
			t.Errorf("Routes from %d = %v, %d; want %v", n, got, e, want)
		}
	}
}

// At level 1 what is told down is a RouteDown; at level 2 it is a RouteL2 like all.
func TestKinds(t *testing.T) {
	l := pair(thing("10.1.0.0/16", 1), down("10.2.0.0/16", 2))
	near := []inter.Near{over(0, 2, 10)}
	one := route("10.1.0.0/16", api.RouteL1, 11, hop(0, 2))
	two := route("10.2.0.0/16", api.RouteDown, 12, hop(0, 2))
	routesAre(t, l, near, one, two)
	one.Kind, two.Kind = api.RouteL2, api.RouteL2
	levelIs(t, 2, l, near, one, two)
	// The level that an LSP says isn't looked at.
	for i := range l {
		l[i].Level = 1 + i
	}
	levelIs(t, 2, l, near, one, two)
}

// Routes stand in the order of their prefixes, whatever the order of what is told.
func TestOrder(t *testing.T) {
	texts := []string{"0.0.0.0/0", "9.0.0.0/8", "10.0.0.0/8", "10.0.0.0/16", "10.1.0.0/16", "255.255.255.255/32"}
	l := square()
	var want []api.Route
	for i, text := range texts {
		l.tell(2+i%2, 0, thing(text, 1))
		want = append(want, route(text, api.RouteL1, 11, hop(i%2, 2+i%2)))
	}
	for n := 2; n <= 3; n++ {
		slices.Reverse(l.at(router(n)).Reach[0])
	}
	routesAre(t, l, corners(), want...)
}

// All fragments of a router count; its purges don't.
func TestFragments(t *testing.T) {
	l := pair(thing("10.1.0.0/16", 1))
	near := []inter.Near{over(0, 2, 10)}
	one := route("10.1.0.0/16", api.RouteL1, 11, hop(0, 2))
	two := route("10.2.0.0/16", api.RouteL1, 12, hop(0, 2))
	more := append(slices.Clone(l), frag(2, 255, thing("10.2.0.0/16", 2)))
	routesAre(t, more, near, one, two)
	more[len(more)-1].Life = -1
	routesAre(t, more, near, one, two)
	more[len(more)-1].Life = 0
	routesAre(t, more, near, one)
	// A purge may have the ID of another LSP.
	routesAre(t, append(slices.Clone(l), purged(frag(2, 0, thing("10.3.0.0/16", 1)))), near, one)
	// A router's pseudonode is another node.
	lan := frag(2, 0, thing("10.2.0.0/16", 2))
	lan.ID.Node.Pseudo = 1
	routesAre(t, append(slices.Clone(l), lan), near, one)
	// Without its fragment 0 a router isn't there.
	routesAre(t, []api.LSP{*l.at(router(1)), frag(2, 1, thing("10.2.0.0/16", 2))}, near)
}

// The sum of the two metrics; what comes to MaxPath is no route.
func TestMetrics(t *testing.T) {
	near := []inter.Near{over(0, 2, 10)}
	for _, m := range []uint32{0, 1, 63, api.MaxLink - 1, api.MaxLink, api.MaxLink + 1, api.MaxPath - 11} {
		routesAre(t, pair(thing("10.1.0.0/16", m)), near, route("10.1.0.0/16", api.RouteL1, m+10, hop(0, 2)))
	}
	for _, m := range []uint32{api.MaxPath - 10, api.MaxPath - 9, api.MaxPath, api.MaxPath + 1, math.MaxUint32 - 10, math.MaxUint32} {
		routesAre(t, pair(thing("10.1.0.0/16", m)), near)
		// Though its Kind is less it isn't better than what is a route.
		routesAre(t, pair(thing("10.1.0.0/16", m), down("10.1.0.0/16", 2)), near, route("10.1.0.0/16", api.RouteDown, 12, hop(0, 2)))
	}
}

// Sums beyond 2^32, too, come to MaxPath.
func TestFarRoutes(t *testing.T) {
	const far = 3 * (api.MaxLink - 1)
	near := []inter.Near{over(0, 2, 10)}
	for m, is := range map[uint32]bool{0: true, api.MaxPath - far - 1: true, api.MaxPath - far: false, api.MaxPath: false, math.MaxUint32 - far: false, math.MaxUint32 - far + 1: false, math.MaxUint32: false} {
		var l tells
		for n := 1; n <= 3; n++ {
			l.link(router(n), router(n+1), api.MaxLink-1)
		}
		l.tell(4, 0, thing("10.4.0.0/16", m))
		if is {
			routesAre(t, l, near, route("10.4.0.0/16", api.RouteL1, far+m, hop(0, 2)))
		} else {
			routesAre(t, l, near)
		}
	}
}

// Of several routes to a prefix the better one is answered.
func TestBetter(t *testing.T) {
	p := "10.0.0.0/8"
	l := square()
	l.tell(2, 0, thing(p, 7))
	l.tell(3, 0, thing(p, 6))
	routesAre(t, l, corners(), route(p, api.RouteL1, 16, hop(1, 3)))
	l.tell(4, 0, thing(p, 0))
	routesAre(t, l, corners(), route(p, api.RouteL1, 15, hop(0, 2), hop(1, 3)))
	l.tell(2, 0, thing(p, 5))
	routesAre(t, l, corners(), route(p, api.RouteL1, 15, hop(0, 2), hop(1, 3)))
	l.tell(3, 0, down(p, 0), thing(p, 1), thing(p, 1), thing(p, 3))
	routesAre(t, l, corners(), route(p, api.RouteL1, 11, hop(1, 3)))
	levelIs(t, 2, l, corners(), route(p, api.RouteL2, 10, hop(1, 3)))
	// By the kinds first.
	l = square()
	l.tell(2, 0, down(p, 0))
	l.tell(3, 0, down(p, 0))
	routesAre(t, l, corners(), route(p, api.RouteDown, 10, hop(0, 2), hop(1, 3)))
	l.tell(4, 0, thing(p, 100))
	routesAre(t, l, corners(), route(p, api.RouteL1, 115, hop(0, 2), hop(1, 3)))
	levelIs(t, 2, l, corners(), route(p, api.RouteL2, 10, hop(0, 2), hop(1, 3)))
}

// Equal routes are one, with the hops of both in order.
func TestEqualRoutes(t *testing.T) {
	p := "10.0.0.0/8"
	l := square()
	l.tell(2, 0, thing(p, 1))
	l.tell(3, 0, thing(p, 1))
	routesAre(t, l, []inter.Near{over(5, 2, 1), over(3, 2, 1), over(4, 3, 9), over(2, 3, 9)}, route(p, api.RouteL1, 11, hop(2, 3), hop(3, 2), hop(4, 3), hop(5, 2)))
}

// Of a neighbour's circuits those with the least metric count; of each neighbour its own least.
func TestHops(t *testing.T) {
	p := "10.4.0.0/16"
	l := square()
	l.tell(4, 0, thing(p, 0))
	for _, c := range []struct {
		near []inter.Near
		hops []api.Hop
	}{
		{corners(), []api.Hop{hop(0, 2), hop(1, 3)}},
		{[]inter.Near{over(0, 2, 1), over(1, 3, 100)}, []api.Hop{hop(0, 2), hop(1, 3)}},
		{[]inter.Near{over(1, 2, 1), over(0, 3, 1)}, []api.Hop{hop(0, 3), hop(1, 2)}},
		{[]inter.Near{over(0, 3, 1), over(0, 2, 1)}, []api.Hop{hop(0, 2), hop(0, 3)}}, // one circuit: in the order of the names
		{[]inter.Near{over(3, 2, 5), over(2, 2, 5), over(1, 2, 6)}, []api.Hop{hop(2, 2), hop(3, 2)}},
		{[]inter.Near{over(3, 2, 5), over(2, 2, 4), over(1, 2, 6)}, []api.Hop{hop(2, 2)}},
		{[]inter.Near{over(0, 2, 5), over(0, 2, 5), over(0, 2, 5)}, []api.Hop{hop(0, 2)}}, // each once
		{[]inter.Near{over(0, 2, 5), over(0, 2, 4), over(0, 2, 6)}, []api.Hop{hop(0, 2)}},
		{[]inter.Near{over(-7, 2, 5), over(math.MaxInt, 2, 5), over(math.MinInt, 2, 5)}, []api.Hop{hop(math.MinInt, 2), hop(-7, 2), hop(math.MaxInt, 2)}},
		{[]inter.Near{over(0, 2, 0), over(1, 2, 9)}, []api.Hop{hop(1, 2)}}, // 0: not of the topology, not the least
		{[]inter.Near{over(0, 2, api.MaxLink), over(1, 2, api.MaxLink-1)}, []api.Hop{hop(1, 2)}},
		{[]inter.Near{over(0, 2, 1), over(1, 3, 0)}, []api.Hop{hop(0, 2)}},
	} {
		routesAre(t, l, c.near, route(p, api.RouteL1, 15, c.hops...))
	}
}

// What has no hops is no route, and is better than none.
func TestNoHops(t *testing.T) {
	p := "10.0.0.0/8"
	l := square()
	l.tell(4, 0, thing(p, 0))
	for _, near := range [][]inter.Near{
		nil, {}, {over(0, 4, 1), over(0, 1, 1), over(0, 5, 1)}, {over(0, 2, 0), over(1, 3, 0)},
		{over(0, 2, api.MaxLink), over(1, 3, api.MaxLink+1)}, {over(0, 2, api.MaxPath), over(1, 3, math.MaxUint32)},
		{{Circuit: 0, To: sys(2), Metric: [2]uint32{0, 1}}},
	} {
		routesAre(t, l, near)
	}
	near := []inter.Near{over(1, 3, 10)}
	l.tell(2, 0, thing(p, 0))
	routesAre(t, l, near, route(p, api.RouteL1, 15, hop(1, 3)))
	l.tell(3, 0, down(p, 0))
	routesAre(t, l, near, route(p, api.RouteL1, 15, hop(1, 3)))
	l.at(router(4)).Reach[0] = nil
	routesAre(t, l, near, route(p, api.RouteDown, 10, hop(1, 3)))
}

// badReach are LSPs, each with a prefix that may not stand in one of the lists.
func badReach(t int) []api.LSP {
	var list []api.LSP
	bad := append(slices.Clone(notInForm), pfx([]string{"::/0", "0.0.0.0/0"}[t]))
	for i, p := range bad {
		l := frag(9, byte(i))
		right := pfx([]string{"10.0.0.0/8", "2001:db8::/32"}[t])
		l.Reach[t] = []api.Reach{{Prefix: right}, {Prefix: p}}
		list = append(list, l)
	}
	return list
}

func TestRoutesErrors(t *testing.T) {
	l := square()
	near := corners()
	for _, n := range []int{math.MinInt, -1, 0, 3, 4, math.MaxInt} {
		routesFail(t, n, 0, l, near, api.ErrArg)
		routesFail(t, n, 1, nil, nil, api.ErrArg)
	}
	for _, n := range []int{math.MinInt, -1, 2, 3, math.MaxInt} {
		routesFail(t, 1, n, l, near, api.ErrArg)
		routesFail(t, 2, n, nil, nil, api.ErrArg)
	}
	var many []api.LSP
	for n := range api.MaxLSPs + 1 {
		many = append(many, frag(n, 0))
	}
	routesFail(t, 1, 0, many[:api.MaxLSPs], near, api.OK)
	routesFail(t, 1, 0, many, near, api.ErrLong)
	routesFail(t, 2, 1, many, near, api.ErrLong)
	routesFail(t, 1, 0, l, slices.Repeat(near, 128), api.OK)
	routesFail(t, 1, 0, l, append(slices.Repeat(near, 128), near[0]), api.ErrLong)
	routesFail(t, 1, 0, nil, make([]inter.Near, 257), api.ErrLong)
	routesFail(t, 1, 0, append(slices.Clone(l), frag(2, 0)), near, api.ErrForm)
}

// The form is asked of all prefixes of the topology but a purge's: whoever tells them, reached or not.
func TestRoutesForm(t *testing.T) {
	lan := api.Node{Sys: sys(2), Pseudo: 3}
	for topology := range 2 {
		for _, bad := range badReach(topology) {
			routesFail(t, 1, topology, []api.LSP{bad}, nil, api.ErrForm)
			for _, level := range []int{1, 2} {
				routesFail(t, level, topology, append(square(), bad), corners(), api.ErrForm)
				routesFail(t, level, topology, append(square(), purged(bad)), corners(), api.OK)
				routesFail(t, level, 1-topology, append(square(), bad), corners(), api.OK)
			}
			bad.Life = -1
			routesFail(t, 1, topology, append(square(), bad), corners(), api.ErrForm)
			for _, n := range []api.Node{router(1), router(4), lan} {
				bad.ID.Node, bad.ID.Frag = n, 7
				routesFail(t, 1, topology, append(tells{bad}, square()...), corners(), api.ErrForm)
			}
		}
	}
}

// Of several errors the least one is answered.
func TestRoutesOrderOfErrors(t *testing.T) {
	bad := badReach(0)[0]
	twice := []api.LSP{bad, bad}
	many := slices.Repeat(twice, api.MaxLSPs)
	nears := make([]inter.Near, 257)
	routesFail(t, 3, 0, many, nears, api.ErrArg)
	routesFail(t, 1, 2, many, nears, api.ErrArg)
	routesFail(t, 3, 0, nil, nears, api.ErrArg)
	routesFail(t, 1, 2, nil, nears, api.ErrArg)
	routesFail(t, 0, 0, twice, nil, api.ErrArg)
	routesFail(t, 1, 0, many, nil, api.ErrLong)
	routesFail(t, 1, 0, twice, nears, api.ErrLong)
	routesFail(t, 1, 0, twice[:1], nears, api.ErrLong)
	routesFail(t, 1, 0, twice, nil, api.ErrForm)
}

// Many routers that tell much over many circuits.
func TestManyRoutes(t *testing.T) {
	const count = 256
	p := api.Prefix{Fam: 4, Len: 32}
	var l tells
	var near []inter.Near
	var hops []api.Hop
	for n := 2; n < 2+count; n++ {
		l.link(router(1), router(n), 1)
		near = append(near, over(n, n, 1))
		hops = append(hops, hop(n, n))
		for i := range 200 {
			p.Addr = [16]byte{10, 0, 0, byte(i)}
			l.tell(n, 0, api.Reach{Prefix: p, Metric: 1})
		}
	}
	got, e := inter.Routes(sys(1), 2, 0, l, near)
	if e != api.OK || len(got) != 200 {
		t.Fatal(len(got), e)
	}
	for i, r := range got {
		p.Addr[3] = byte(i)
		if !sameRoute(r, api.Route{Prefix: p, Kind: api.RouteL2, Metric: 2, Hops: hops}) {
			t.Fatal(i, r)
		}
	}
}
