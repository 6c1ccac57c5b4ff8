package inter_test

import (
	"bytes"
	"cmp"
	"math"
	"math/rand"
	"slices"
	"testing"

	"waymark/api"
	"waymark/inter"
	"waymark/octet"
	"waymark/prefix"
	"waymark/spf"
)

// sys answers the name of that number; the names are in the numbers' order.
func sys(n int) api.SysID {
	return api.SysID{4: byte(n >> 8), 5: byte(n)}
}

// router answers the router of that number.
func router(n int) api.Node {
	return api.Node{Sys: sys(n)}
}

// pfx answers the prefix of which text is the text.
func pfx(text string) api.Prefix {
	p, e := prefix.Parse(text)
	if e != api.OK {
		panic(text)
	}
	return p
}

// notInForm: each of these is refused wherever a prefix is looked at.
var notInForm = []api.Prefix{
	{}, {Fam: 5}, {Fam: 4, Len: -1}, {Fam: 4, Len: 33}, {Fam: 6, Len: 129}, {Fam: 4, Len: math.MaxInt}, {Fam: 6, Len: math.MinInt},
	{Fam: 4, Len: 8, Addr: [16]byte{10, 1}}, {Fam: 4, Len: 32, Addr: [16]byte{15: 1}}, {Fam: 6, Len: 127, Addr: [16]byte{15: 1}},
}

// thing answers a prefix that is told.
func thing(text string, metric uint32) api.Reach {
	return api.Reach{Prefix: pfx(text), Metric: metric}
}

// down answers a prefix that is told down.
func down(text string, metric uint32) api.Reach {
	return api.Reach{Prefix: pfx(text), Metric: metric, Down: true}
}

// hop answers a hop.
func hop(circuit, to int) api.Hop {
	return api.Hop{Circuit: circuit, To: sys(to)}
}

// route answers a route.
func route(text string, kind int, metric uint32, hops ...api.Hop) api.Route {
	return api.Route{Prefix: pfx(text), Kind: kind, Metric: metric, Hops: hops}
}

// over answers a circuit to a neighbour, with one metric for both topologies.
func over(circuit, to int, metric uint32) inter.Near {
	return inter.Near{Circuit: circuit, To: sys(to), Metric: [2]uint32{metric, metric}}
}

// frag answers a fragment of a router, with prefixes of IPv4.
func frag(n int, number byte, things ...api.Reach) api.LSP {
	return api.LSP{ID: api.LSPID{Node: router(n), Frag: number}, Seq: 1, Life: 9, Reach: [2][]api.Reach{things}}
}

// purged answers l with Life 0.
func purged(l api.LSP) api.LSP {
	l.Life = 0
	return l
}

// tells is LSPs that a test makes.
type tells []api.LSP

// at answers the fragment 0 of a node; if there was none, there is one then.
func (l *tells) at(n api.Node) *api.LSP {
	for i := range *l {
		if (*l)[i].ID == (api.LSPID{Node: n}) {
			return &(*l)[i]
		}
	}
	*l = append(*l, api.LSP{ID: api.LSPID{Node: n}, Seq: 1, Life: 9})
	return &(*l)[len(*l)-1]
}

// link makes two nodes tell of one another in both topologies.
func (l *tells) link(a, b api.Node, metric uint32) {
	for t := range 2 {
		for _, ends := range [][2]api.Node{{a, b}, {b, a}} {
			from := l.at(ends[0])
			from.Edges[t] = append(from.Edges[t], api.Edge{To: ends[1], Metric: metric})
		}
	}
}

// tell makes a router tell prefixes of a topology.
func (l *tells) tell(n, t int, things ...api.Reach) {
	from := l.at(router(n))
	from.Reach[t] = append(from.Reach[t], things...)
}

// square answers what the routers of a square tell: from 1 to 2 and 3 it is 10, from there to 4 it is 5.
func square() tells {
	var l tells
	l.link(router(1), router(2), 10)
	l.link(router(1), router(3), 10)
	l.link(router(2), router(4), 5)
	l.link(router(3), router(4), 5)
	return l
}

// corners are the circuits of the router 1 of the square.
func corners() []inter.Near {
	return []inter.Near{over(0, 2, 10), over(1, 3, 10)}
}

// sameRoute tells whether two routes are the same, nil and empty hops too.
func sameRoute(a, b api.Route) bool {
	return a.Prefix == b.Prefix && a.Kind == b.Kind && a.Metric == b.Metric && slices.Equal(a.Hops, b.Hops)
}

// sameRoutes tells whether two lists of routes are the same.
func sameRoutes(a, b []api.Route) bool {
	return slices.EqualFunc(a, b, sameRoute)
}

// The model: the chapter's words, one thing at a time.

// modelHops answers the hops to some routers.
func modelHops(routers []api.SysID, t int, near []inter.Near) []api.Hop {
	var hops []api.Hop
	for _, n := range near {
		is := slices.Contains(routers, n.To) && n.Metric[t] != 0 && n.Metric[t] < api.MaxLink
		for _, other := range near {
			if other.To == n.To && other.Metric[t] != 0 && other.Metric[t] < n.Metric[t] {
				is = false
			}
		}
		if is {
			hops = modelAdd(hops, api.Hop{Circuit: n.Circuit, To: n.To})
		}
	}
	return hops
}

// modelAdd puts a hop where it belongs, if it isn't there.
func modelAdd(hops []api.Hop, h api.Hop) []api.Hop {
	for i, other := range hops {
		switch {
		case other == h:
			return hops
		case other.Circuit > h.Circuit || other.Circuit == h.Circuit && bytes.Compare(other.To[:], h.To[:]) > 0:
			return slices.Insert(hops, i, h)
		}
	}
	return append(hops, h)
}

// modelBetter puts a route into a list where it belongs, or into the place of a worse one.
func modelBetter(list []api.Route, r api.Route) []api.Route {
	for i, other := range list {
		if other.Prefix != r.Prefix {
			order, _ := prefix.Cmp(other.Prefix, r.Prefix)
			if order > 0 {
				return slices.Insert(list, i, r)
			}
			continue
		}
		switch by := cmp.Or(cmp.Compare(r.Kind, other.Kind), cmp.Compare(r.Metric, other.Metric)); {
		case by < 0:
			list[i] = r
		case by == 0:
			var hops []api.Hop
			for _, h := range append(slices.Clone(other.Hops), r.Hops...) {
				hops = modelAdd(hops, h)
			}
			list[i].Hops = hops
		}
		return list
	}
	return append(list, r)
}

func modelRoutes(root api.SysID, level, t int, list []api.LSP, near []inter.Near) []api.Route {
	var routes []api.Route
	paths, _ := spf.Run(root, t, list)
	for _, p := range paths {
		for _, l := range list {
			if l.ID.Node != (api.Node{Sys: p.To}) || l.Life == 0 {
				continue
			}
			for _, r := range l.Reach[t] {
				made := api.Route{Prefix: r.Prefix, Kind: level, Metric: octet.Plus(p.Metric, r.Metric), Hops: modelHops(p.Hops, t, near)}
				if level == 1 && r.Down {
					made.Kind = api.RouteDown
				}
				if made.Metric != api.MaxPath && len(made.Hops) > 0 {
					routes = modelBetter(routes, made)
				}
			}
		}
	}
	return routes
}

func modelDefault(root api.SysID, t int, list []api.LSP, near []inter.Near) (api.Route, bool) {
	paths, _ := spf.Run(root, t, list)
	paths = slices.DeleteFunc(paths, func(p spf.Path) bool {
		return !slices.ContainsFunc(list, func(l api.LSP) bool {
			return l.ID == (api.LSPID{Node: api.Node{Sys: p.To}}) && l.Life != 0 && l.Attached[t]
		})
	})
	r := api.Route{Prefix: api.Prefix{Fam: byte(4 + 2*t)}, Kind: api.RouteDefault, Metric: api.MaxPath}
	for _, p := range paths {
		r.Metric = min(r.Metric, p.Metric)
	}
	var all []api.SysID
	for _, p := range paths {
		if p.Metric == r.Metric {
			all = append(all, p.Hops...)
		}
	}
	r.Hops = modelHops(all, t, near)
	if len(r.Hops) == 0 {
		return api.Route{}, false
	}
	return r, true
}

func modelAttached(root api.SysID, t int, list []api.LSP, areas [][]byte) bool {
	paths, _ := spf.Run(root, t, list)
	for _, p := range paths {
		for _, l := range list {
			for _, area := range l.Areas {
				other := !slices.ContainsFunc(areas, func(a []byte) bool { return bytes.Equal(a, area) })
				if other && l.ID.Node == (api.Node{Sys: p.To}) && l.Life != 0 {
					return true
				}
			}
		}
	}
	return false
}

// someThings answers prefixes of a topology, few different ones, at metrics that are often equal.
func someThings(r *rand.Rand, t int) []api.Reach {
	texts := [2][]string{
		{"0.0.0.0/0", "10.0.0.0/8", "10.0.0.0/9", "10.128.0.0/9", "1.2.3.4/32"},
		{"::/0", "2001:db8::/32", "2001:db8::/33", "a00::/8"},
	}[t]
	var list []api.Reach
	for range r.Intn(4) {
		one := thing(texts[r.Intn(len(texts))], uint32(r.Intn(4)))
		one.Down = r.Intn(3) == 0
		if r.Intn(15) == 0 {
			one.Metric = api.MaxPath - uint32(r.Intn(6))
		}
		list = append(list, one)
	}
	return list
}

// someLSPs answers what the nodes of some net of few nodes tell.
func someLSPs(r *rand.Rand) []api.LSP {
	var l tells
	nodes := []api.Node{router(1)}
	for n := range 1 + r.Intn(7) {
		nodes = append(nodes, api.Node{Sys: sys(1 + r.Intn(n+2)), Pseudo: byte(max(0, r.Intn(5)-3))})
	}
	for range 3 + r.Intn(15) {
		if a, b := nodes[r.Intn(len(nodes))], nodes[r.Intn(len(nodes))]; a != b {
			l.link(a, b, uint32(r.Intn(3)))
		}
	}
	for _, n := range nodes {
		l.at(n)
		if r.Intn(3) == 0 {
			l = append(l, api.LSP{ID: api.LSPID{Node: n, Frag: byte(len(l) + 1)}, Life: 1})
		}
	}
	for i := range l {
		for t := range 2 {
			l[i].Reach[t] = someThings(r, t)
			l[i].Attached[t] = r.Intn(3) == 0
		}
		l[i].Areas = someAreas(r)
		l[i].Overload = r.Intn(8) == 0
		if r.Intn(12) == 0 {
			l[i].Life = 0
		}
	}
	r.Shuffle(len(l), func(i, k int) { l[i], l[k] = l[k], l[i] })
	return l
}

func someAreas(r *rand.Rand) [][]byte {
	var list [][]byte
	for range r.Intn(3) {
		list = append(list, bytes.Repeat([]byte{1}, r.Intn(4)))
	}
	return list
}

// someNear answers circuits to few neighbours, with few metrics.
func someNear(r *rand.Rand) []inter.Near {
	var list []inter.Near
	metrics := []uint32{0, 1, 1, 2, 2, 3, api.MaxLink - 1, api.MaxLink, math.MaxUint32}
	for range r.Intn(12) {
		list = append(list, inter.Near{
			Circuit: r.Intn(4) - 1,
			To:      sys(1 + r.Intn(8)),
			Metric:  [2]uint32{metrics[r.Intn(len(metrics))], metrics[r.Intn(len(metrics))]},
		})
	}
	return list
}

// Routes, Default and Attached answer what the words say, one by one.
func TestAgainstModel(t *testing.T) {
	one := sys(1)
	found, defaults, attached := 0, 0, 0
	for seed := range 8000 {
		r := rand.New(rand.NewSource(int64(seed)))
		list, near, areas := someLSPs(r), someNear(r), someAreas(r)
		for topology := range 2 {
			for level := 1; level <= 2; level++ {
				want := modelRoutes(one, level, topology, list, near)
				if got, e := inter.Routes(one, level, topology, list, near); !sameRoutes(got, want) || e != api.OK {
					t.Fatalf("seed %d: Routes(%d, %d, %v, %v) = %v, %d; want %v", seed, level, topology, list, near, got, e, want)
				}
				found += len(want)
			}
			want, is := modelDefault(one, topology, list, near)
			if got, ok, e := inter.Default(one, topology, list, near); !sameRoute(got, want) || ok != is || e != api.OK {
				t.Fatalf("seed %d: Default(%d, %v, %v) = %v, %t, %d; want %v", seed, topology, list, near, got, ok, e, want)
			}
			other := modelAttached(one, topology, list, areas)
			if ok, e := inter.Attached(one, topology, list, areas); ok != other || e != api.OK {
				t.Fatalf("seed %d: Attached(%d, %v, %v) = %t, %d; want %t", seed, topology, list, areas, ok, e, other)
			}
			if is {
				defaults++
			}
			if other {
				attached++
			}
		}
	}
	if found < 10000 || defaults < 1000 || attached < 1000 || attached > 15000 {
		t.Error("the nets are too poor:", found, defaults, attached)
	}
}

// What holds everywhere: P2. Asked again, in whichever order the LSPs and the circuits stand, all is answered as it was.
func TestTheSameAgain(t *testing.T) {
	one := sys(1)
	for seed := range 100 {
		r := rand.New(rand.NewSource(int64(seed)))
		list, near := someLSPs(r), someNear(r)
		routes, _ := inter.Routes(one, 1, 0, list, near)
		far, is, _ := inter.Default(one, 0, list, near)
		for range 20 {
			r.Shuffle(len(list), func(i, k int) { list[i], list[k] = list[k], list[i] })
			r.Shuffle(len(near), func(i, k int) { near[i], near[k] = near[k], near[i] })
			if again, e := inter.Routes(one, 1, 0, list, near); !sameRoutes(again, routes) || e != api.OK {
				t.Fatalf("seed %d: %v, then %v", seed, routes, again)
			}
			if again, ok, e := inter.Default(one, 0, list, near); !sameRoute(again, far) || ok != is || e != api.OK {
				t.Fatalf("seed %d: %v, then %v", seed, far, again)
			}
		}
	}
}

// spoil writes over a list and its spare room.
func spoil[T any](list []T, one T) {
	list = list[:cap(list)]
	for i := range list {
		list[i] = one
	}
}

// roomy answers a list again, with spare room behind it that is marked.
func roomy[T any](list []T, mark T) []T {
	room := append(slices.Clone(list), mark, mark)
	return room[:len(list)]
}

// room answers the list with what stands behind it.
func room[T any](list []T) []T {
	return list[:len(list)+2]
}

// ownHops looks at whether the hops of each route are its own, spare room too; they are written over.
func ownHops(t *testing.T, routes []api.Route) {
	t.Helper()
	var copies [][]api.Hop
	for _, r := range routes {
		copies = append(copies, slices.Clone(r.Hops))
	}
	for i := range routes {
		spoil(routes[i].Hops, hop(77, 77))
		for k := i + 1; k < len(routes); k++ {
			if !slices.Equal(routes[k].Hops, copies[k]) {
				t.Fatalf("the hops of %d and %d share memory", i, k)
			}
		}
	}
}

// What holds everywhere: what is handed in is not changed and not kept, what is answered is new.
func TestMemory(t *testing.T) {
	fresh := func() ([]api.LSP, []inter.Near, [][]byte) {
		l := square()
		l.tell(2, 0, thing("10.3.0.0/16", 1), thing("10.2.0.0/16", 1))
		l.tell(4, 0, thing("10.2.0.0/16", 1), thing("10.4.0.0/16", 1), thing("10.4.0.0/16", 1), thing("10.5.0.0/16", 1))
		l.at(router(4)).Attached[0] = true
		for i := range l {
			l[i].Reach[0] = roomy(l[i].Reach[0], thing("0.0.0.0/0", 9))
			l[i].Areas = roomy([][]byte{roomy([]byte{1}, 9)}, []byte{8})
		}
		near := append([]inter.Near{over(7, 2, 10), over(7, 2, 11)}, corners()...)
		return roomy(l, frag(99, 0)), roomy(near, over(9, 9, 9)), roomy([][]byte{roomy([]byte{1}, 7)}, []byte{6})
	}
	whole := func(list []api.LSP) []api.LSP {
		all := slices.Clone(room(list))
		for i := range list {
			all[i].Reach[0] = room(all[i].Reach[0])
			all[i].Areas = slices.Clone(room(all[i].Areas))
			all[i].Areas[0] = room(all[i].Areas[0])
		}
		return all
	}
	list, near, areas := fresh()
	routes, _ := inter.Routes(sys(1), 1, 0, list, near)
	again, _ := inter.Routes(sys(1), 1, 0, list, near)
	far, _, _ := inter.Default(sys(1), 0, list, near)
	inter.Attached(sys(1), 0, list, areas)
	wantList, wantNear, wantAreas := fresh()
	if !sameLSPs(whole(list), whole(wantList)) || !slices.Equal(room(near), room(wantNear)) ||
		!slices.EqualFunc(room(areas), room(wantAreas), bytes.Equal) || !bytes.Equal(room(areas[0]), room(wantAreas[0])) {
		t.Fatal("what was handed in has changed")
	}
	ownHops(t, again)
	spoil(again, api.Route{})
	for i := range list {
		spoil(list[i].Reach[0], api.Reach{})
	}
	spoil(list, api.LSP{})
	spoil(near, inter.Near{})
	both := []api.Hop{hop(0, 2), hop(1, 3), hop(7, 2)}
	two := []api.Hop{hop(0, 2), hop(7, 2)}
	want := []api.Route{
		route("10.2.0.0/16", api.RouteL1, 11, two...), route("10.3.0.0/16", api.RouteL1, 11, two...),
		route("10.4.0.0/16", api.RouteL1, 16, both...), route("10.5.0.0/16", api.RouteL1, 16, both...),
	}
	if !sameRoutes(routes, want) || !sameRoute(far, route("0.0.0.0/0", api.RouteDefault, 15, both...)) {
		t.Fatalf("an answer hangs on what was handed in, or on another answer: %v, %v", routes, far)
	}
}

// sameLSPs tells whether two lists of LSPs are the same, in what these tests make.
func sameLSPs(a, b []api.LSP) bool {
	return slices.EqualFunc(a, b, func(a, b api.LSP) bool {
		return a.ID == b.ID && a.Life == b.Life && a.Seq == b.Seq && a.Attached == b.Attached &&
			slices.Equal(a.Reach[0], b.Reach[0]) && slices.Equal(a.Reach[1], b.Reach[1]) &&
			slices.Equal(a.Edges[0], b.Edges[0]) && slices.Equal(a.Edges[1], b.Edges[1]) &&
			slices.EqualFunc(a.Areas, b.Areas, bytes.Equal)
	})
}
