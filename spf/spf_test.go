package spf_test

import (
	"bytes"
	"math"
	"math/rand"
	"reflect"
	"slices"
	"testing"

	"waymark/api"
	"waymark/spf"
)

// sys answers the name of that number; the names are in the numbers' order.
func sys(n int) api.SysID {
	return api.SysID{4: byte(n >> 8), 5: byte(n)}
}

// router answers the router of that number.
func router(n int) api.Node {
	return api.Node{Sys: sys(n)}
}

// lan answers a pseudonode of the router of that number.
func lan(n int, pseudo byte) api.Node {
	return api.Node{Sys: sys(n), Pseudo: pseudo}
}

// edge answers an edge.
func edge(to api.Node, metric uint32) api.Edge {
	return api.Edge{To: to, Metric: metric}
}

// tells answers the fragment 0 of a node, with edges of IPv4.
func tells(n api.Node, edges ...api.Edge) api.LSP {
	return api.LSP{Level: api.L1, ID: api.LSPID{Node: n}, Seq: 1, Life: 9, Edges: [2][]api.Edge{edges}}
}

// more answers a further fragment of a node, with edges of IPv4.
func more(n api.Node, frag byte, edges ...api.Edge) api.LSP {
	l := tells(n, edges...)
	l.ID.Frag = frag
	return l
}

// shut answers l with Overload.
func shut(l api.LSP) api.LSP {
	l.Overload = true
	return l
}

// purged answers l with Life 0.
func purged(l api.LSP) api.LSP {
	l.Life = 0
	return l
}

// net is nodes, and what each tells of each.
type net map[api.Node][]api.Edge

// both makes two nodes tell the same metric of one another.
func (n net) both(a, b api.Node, metric uint32) net {
	return n.ways(a, b, metric, metric)
}

// ways makes two nodes tell metrics of one another.
func (n net) ways(a, b api.Node, there, back uint32) net {
	n[a] = append(n[a], edge(b, there))
	n[b] = append(n[b], edge(a, back))
	return n
}

// lsps answers what the nodes tell, in the order of the nodes, which those of shuts tell with Overload.
func (n net) lsps(shuts ...api.Node) []api.LSP {
	var list []api.LSP
	for id, edges := range n {
		l := tells(id, edges...)
		l.Overload = slices.Contains(shuts, id)
		list = append(list, l)
	}
	slices.SortFunc(list, func(a, b api.LSP) int {
		return bytes.Compare(append(a.ID.Node.Sys[:], a.ID.Node.Pseudo), append(b.ID.Node.Sys[:], b.ID.Node.Pseudo))
	})
	return list
}

// path answers a path to a router, of a metric, over these hops.
func path(to int, metric uint32, hops ...int) spf.Path {
	p := spf.Path{To: sys(to), Metric: metric}
	for _, hop := range hops {
		p.Hops = append(p.Hops, sys(hop))
	}
	return p
}

// same tells whether two lists of paths are the same.
func same(a, b []spf.Path) bool {
	return slices.EqualFunc(a, b, func(p, q spf.Path) bool {
		return p.To == q.To && p.Metric == q.Metric && slices.Equal(p.Hops, q.Hops)
	})
}

// runs looks at what Run answers of IPv4 from the router 1 on, whichever way round the LSPs stand.
func runs(t *testing.T, list []api.LSP, want ...spf.Path) {
	t.Helper()
	turned := slices.Clone(list)
	slices.Reverse(turned)
	for _, l := range [][]api.LSP{list, turned} {
		if got, e := spf.Run(sys(1), 0, l); !same(got, want) || e != api.OK {
			t.Errorf("Run = %v, %d; want %v", got, e, want)
		}
	}
}

// fails looks at what Run answers of what isn't in order.
func fails(t *testing.T, root, topology int, list []api.LSP, want api.Errno) {
	t.Helper()
	if got, e := spf.Run(sys(root), topology, list); len(got) != 0 || e != want {
		t.Errorf("Run(%d, %d, %d LSPs) = %v, %d; want %d", root, topology, len(list), got, e, want)
	}
}

// square answers the document's example.
func square() net {
	return net{}.both(router(1), router(2), 10).both(router(1), router(3), 10).both(router(2), router(4), 5).both(router(3), router(4), 5)
}

// P15.1

func TestExamples(t *testing.T) {
	runs(t, square().lsps(), path(2, 10, 2), path(3, 10, 3), path(4, 15, 2, 3))
	runs(t, square().lsps(router(2)), path(2, 10, 2), path(3, 10, 3), path(4, 15, 3))
	less := square()
	less[router(4)] = less[router(4)][:1]
	runs(t, less.lsps(), path(2, 10, 2), path(3, 10, 3), path(4, 15, 2))
	runs(t, net{}.ways(router(1), lan(1, 1), 10, 0).ways(router(2), lan(1, 1), 10, 0).lsps(), path(2, 10, 2))
}

func TestNothing(t *testing.T) {
	runs(t, nil)
	runs(t, []api.LSP{})
	runs(t, []api.LSP{tells(router(1))})
	runs(t, []api.LSP{tells(router(1)), tells(router(2))})
	runs(t, net{}.both(router(2), router(3), 1).lsps())
	runs(t, net{}.both(lan(1, 1), router(3), 1).lsps()) // the root's pseudonode isn't the root
	runs(t, net{}.both(router(1), lan(1, 1), 1).both(lan(1, 1), lan(2, 2), 1).lsps())
}

// Each topology has edges of its own.
func TestTopologies(t *testing.T) {
	list := square().lsps()
	other := net{}.both(router(1), router(4), 7).lsps()
	list[0].Edges[1], list[3].Edges[1] = other[0].Edges[0], other[1].Edges[0]
	runs(t, list, path(2, 10, 2), path(3, 10, 3), path(4, 15, 2, 3))
	got, e := spf.Run(sys(1), 1, list)
	if want := []spf.Path{path(4, 7, 4)}; !same(got, want) || e != api.OK {
		t.Errorf("Run of IPv6 = %v, %d; want %v", got, e, want)
	}
}

// Any router can be the root.
func TestRoots(t *testing.T) {
	list := square().lsps()
	for root, want := range map[int][]spf.Path{
		2: {path(1, 10, 1), path(3, 10, 4), path(4, 5, 4)},
		4: {path(1, 15, 2, 3), path(2, 5, 2), path(3, 5, 3)},
		5: nil,
	} {
		if got, e := spf.Run(sys(root), 0, list); !same(got, want) || e != api.OK {
			t.Errorf("Run from %d = %v, %d; want %v", root, got, e, want)
		}
	}
}

// A node's name is all of its bytes, and the answers stand in their order.
func TestNames(t *testing.T) {
	var all []api.SysID
	for i := range 6 {
		for _, b := range []byte{1, 0x80, 0xff} {
			name := api.SysID{}
			name[i] = b
			all = append(all, name)
		}
	}
	star := net{}
	for _, name := range all {
		star.both(api.Node{}, api.Node{Sys: name}, 3)
	}
	slices.SortFunc(all, func(a, b api.SysID) int { return bytes.Compare(a[:], b[:]) })
	got, e := spf.Run(api.SysID{}, 0, star.lsps())
	if e != api.OK || len(got) != len(all) {
		t.Fatal(got, e)
	}
	for i, p := range got {
		if p.To != all[i] || p.Metric != 3 || !slices.Equal(p.Hops, all[i:i+1]) {
			t.Errorf("path %d = %v; want it to %v", i, p, all[i])
		}
	}
}

// Metrics that can be used, and that can't.
func TestMetrics(t *testing.T) {
	pair := func(there, back uint32) []api.LSP { return net{}.ways(router(1), router(2), there, back).lsps() }
	for _, m := range []uint32{0, 1, 255, 65536, api.MaxLink - 1} {
		runs(t, pair(m, m), path(2, m, 2))
		runs(t, pair(m, 5), path(2, m, 2)) // the other one's metric is no cost
		runs(t, pair(5, m), path(2, 5, 2))
	}
	for _, m := range []uint32{api.MaxLink, api.MaxLink + 1, api.MaxPath, math.MaxUint32} {
		runs(t, pair(m, 5))
		runs(t, pair(5, m))
		runs(t, pair(m, m))
	}
}

// Of several edges to one node the least one counts that can be used.
func TestSeveralEdges(t *testing.T) {
	two := router(2)
	back := tells(two, edge(router(1), 4))
	runs(t, []api.LSP{tells(router(1), edge(two, 9), edge(two, 7), edge(two, 8)), back}, path(2, 7, 2))
	runs(t, []api.LSP{tells(router(1), edge(two, api.MaxLink), edge(two, 9)), back}, path(2, 9, 2))
	runs(t, []api.LSP{tells(router(1), edge(two, 9), edge(two, api.MaxLink)), back}, path(2, 9, 2))
	runs(t, []api.LSP{tells(router(1), edge(two, 9)), more(router(1), 3, edge(two, 2)), back}, path(2, 2, 2))
	one := tells(router(1), edge(two, 9))
	runs(t, []api.LSP{one, tells(two, edge(router(1), api.MaxLink), edge(router(1), 1))}, path(2, 9, 2))
	runs(t, []api.LSP{one, tells(two, edge(router(1), api.MaxLink), edge(router(1), math.MaxUint32))})
}

// An edge is a link only where the other node is there and tells one, too.
func TestLinks(t *testing.T) {
	runs(t, []api.LSP{tells(router(1), edge(router(2), 1))})
	runs(t, []api.LSP{tells(router(1), edge(router(2), 1)), tells(router(2))})
	runs(t, []api.LSP{tells(router(1)), tells(router(2), edge(router(1), 1))})
	runs(t, []api.LSP{tells(router(1), edge(lan(2, 1), 1)), tells(router(2), edge(router(1), 1))})
	runs(t, []api.LSP{tells(router(1), edge(router(2), 1)), tells(router(2), edge(lan(1, 1), 1))})
	runs(t, []api.LSP{tells(router(1), edge(router(1), 1), edge(router(2), 2)), tells(router(2), edge(router(2), 0), edge(router(1), 3))}, path(2, 2, 2))
	// The other direction of a longer way.
	line := net{}.both(router(1), router(2), 1).both(router(2), router(3), 1)
	line[router(3)] = nil
	runs(t, line.lsps(), path(2, 1, 2))
	// What is told in the other topology isn't told in this one.
	list := net{}.both(router(1), router(2), 1).lsps()
	list[1].Edges[0], list[1].Edges[1] = nil, list[1].Edges[0]
	runs(t, list)
}

// Fragments: a node is there by its fragment 0, and tells the edges of all.
func TestFragments(t *testing.T) {
	one, two := router(1), router(2)
	runs(t, []api.LSP{tells(one), more(one, 1, edge(two, 3)), tells(two), more(two, 255, edge(one, 4))}, path(2, 3, 2))
	runs(t, []api.LSP{more(one, 1, edge(two, 3)), tells(two, edge(one, 4))})
	runs(t, []api.LSP{tells(one, edge(two, 3)), more(two, 1, edge(one, 4))})
	p := lan(7, 9)
	on := []api.LSP{tells(one, edge(p, 3)), tells(two, edge(p, 3)), more(p, 1, edge(one, 0), edge(two, 0))}
	runs(t, on)
	runs(t, append(on, tells(p)), path(2, 3, 2))
	// A LAN's fragments are no router's.
	runs(t, []api.LSP{tells(one, edge(two, 3)), tells(two), more(lan(2, 1), 0, edge(one, 4))})
}

// Purges aren't looked at.
func TestPurges(t *testing.T) {
	one, two := router(1), router(2)
	pair := net{}.both(one, two, 3).lsps()
	runs(t, []api.LSP{pair[0], purged(pair[1])})
	runs(t, []api.LSP{purged(pair[0]), pair[1]})
	runs(t, []api.LSP{pair[0], tells(two), purged(more(two, 1, edge(one, 3)))})
	runs(t, append(slices.Clone(pair), purged(more(one, 1, edge(two, 1)))), path(2, 3, 2))
	runs(t, []api.LSP{pair[0], purged(tells(two)), more(two, 1, edge(one, 3))})
	runs(t, append(slices.Clone(pair), purged(shut(tells(two, edge(one, 1)))), purged(tells(one)), purged(tells(one))), path(2, 3, 2))
	// The Life is another number, and nothing else hangs on it.
	for _, life := range []int{math.MinInt, -1, 1, api.MaxAge, math.MaxInt} {
		list := net{}.both(one, two, 3).lsps()
		list[0].Life, list[1].Life = life, life
		runs(t, list, path(2, 3, 2))
	}
}

// What else an LSP has isn't looked at.
func TestTheRest(t *testing.T) {
	list := net{}.both(router(1), router(2), 3).lsps()
	list[1].Level, list[1].Seq, list[1].Attached = 77, 0, [2]bool{true, true}
	list[1].Areas, list[1].Host = [][]byte{nil}, string(make([]byte, 999))
	list[1].Reach[0] = []api.Reach{{Prefix: api.Prefix{Fam: 9, Len: -1}}}
	runs(t, list, path(2, 3, 2))
}

// Overload: no way leads on from such a router, but it is reached; the root's and a pseudonode's doesn't count.
func TestOverload(t *testing.T) {
	line := net{}.both(router(1), router(2), 1).both(router(2), router(3), 1)
	runs(t, line.lsps(router(2)), path(2, 1, 2))
	runs(t, line.lsps(router(1)), path(2, 1, 2), path(3, 2, 2))
	runs(t, line.lsps(router(3)), path(2, 1, 2), path(3, 2, 2))
	runs(t, line.lsps(router(1), router(2), router(3)), path(2, 1, 2))
	// A longer way round, to the overloaded one too.
	round := square().both(router(1), router(4), 100)
	runs(t, round.lsps(router(2), router(3)), path(2, 10, 2), path(3, 10, 3), path(4, 100, 4))
	runs(t, square().lsps(router(4)), path(2, 10, 2), path(3, 10, 3), path(4, 15, 2, 3))
	on := net{}.ways(router(1), lan(2, 1), 4, 0).ways(router(2), lan(2, 1), 4, 0).ways(router(3), lan(2, 1), 4, 0).both(router(2), router(4), 1)
	runs(t, on.lsps(lan(2, 1)), path(2, 4, 2), path(3, 4, 3), path(4, 5, 2))
	runs(t, on.lsps(router(2)), path(2, 4, 2), path(3, 4, 3))
	// It is fragment 0's that counts.
	list := append(line.lsps(), shut(more(router(2), 1)))
	runs(t, list, path(2, 1, 2), path(3, 2, 2))
	list = append(line.lsps(router(2)), more(router(2), 1))
	runs(t, list, path(2, 1, 2))
}

// Pseudonodes: the way off costs nothing, but must be told with a metric that can be used.
func TestPseudonodes(t *testing.T) {
	p, q := lan(2, 1), lan(2, 2)
	for _, m := range []uint32{0, 5, api.MaxLink - 1} {
		runs(t, net{}.ways(router(1), p, 10, m).ways(router(2), p, 20, m).lsps(), path(2, 10, 2))
	}
	runs(t, net{}.ways(router(1), p, 10, 0).ways(router(2), p, 20, api.MaxLink).lsps())
	runs(t, net{}.ways(router(1), p, 10, api.MaxLink).ways(router(2), p, 20, 0).lsps())
	runs(t, net{}.ways(router(1), p, 10, 0).ways(router(2), p, api.MaxLink, 0).lsps())
	// One behind the other, and none is a path's end.
	runs(t, net{}.ways(router(1), p, 10, 0).ways(p, q, 7, 7).ways(q, router(3), 0, 1).lsps(), path(3, 10, 3))
	// The hop is the first router, on whichever LAN it is.
	on := net{}.ways(router(1), p, 10, 0).ways(router(2), p, 10, 0).ways(router(3), p, 10, 0).ways(router(2), q, 1, 0).ways(router(3), q, 1, 0).ways(router(4), q, 1, 0)
	runs(t, on.lsps(), path(2, 10, 2), path(3, 10, 3), path(4, 11, 2, 3))
	// The same LAN at once and behind a router.
	runs(t, net{}.both(router(1), router(2), 3).ways(router(1), p, 5, 0).ways(router(2), p, 2, 0).ways(router(3), p, 2, 0).lsps(), path(2, 3, 2), path(3, 5, 2, 3))
	// By a cable and by the LAN.
	runs(t, net{}.both(router(1), router(2), 5).ways(router(1), p, 5, 0).ways(router(2), p, 5, 0).lsps(), path(2, 5, 2))
	// All the pseudonodes of one router are different nodes.
	runs(t, net{}.ways(router(1), lan(1, 1), 1, 0).ways(router(2), lan(1, 1), 1, 0).ways(router(1), lan(1, 255), 2, 0).ways(router(3), lan(1, 255), 2, 0).lsps(), path(2, 1, 2), path(3, 2, 3))
}

// What is nearer ahead may be farther in the end.
func TestLeastWalks(t *testing.T) {
	round := net{}.both(router(1), router(5), 100).both(router(1), router(2), 1).both(router(2), router(3), 1).both(router(3), router(4), 1).both(router(4), router(5), 1)
	runs(t, round.lsps(), path(2, 1, 2), path(3, 2, 2), path(4, 3, 2), path(5, 4, 2))
	runs(t, round.both(router(1), router(5), 4).lsps(), path(2, 1, 2), path(3, 2, 2), path(4, 3, 2), path(5, 4, 2, 5))
	runs(t, round.both(router(1), router(5), 3).lsps(), path(2, 1, 2), path(3, 2, 2), path(4, 3, 2), path(5, 3, 5))
	// Each direction has a cost of its own.
	runs(t, net{}.ways(router(1), router(2), 9, 1).ways(router(1), router(3), 1, 9).ways(router(3), router(2), 2, 1).lsps(), path(2, 3, 3), path(3, 1, 3))
}

// Hops stand in order, each once, however many walks there are.
func TestHops(t *testing.T) {
	wide := net{}
	var hops []int
	var want []spf.Path
	for n := 2; n < 40; n++ {
		wide.both(router(1), router(n), 1)
		for _, far := range []int{300, 301} {
			wide.both(router(n), router(far), 1)
		}
		hops = append(hops, n)
		want = append(want, path(n, 1, n))
	}
	wide.both(router(300), router(302), 1).both(router(301), router(302), 1)
	runs(t, wide.lsps(), append(want, path(300, 2, hops...), path(301, 2, hops...), path(302, 3, hops...))...)
}

// Where links cost nothing walks may go round; but none comes back to the root.
func TestLinksOfNothing(t *testing.T) {
	a, b, c := router(2), router(3), router(4)
	runs(t, net{}.both(router(1), a, 10).both(router(1), b, 10).both(a, b, 0).lsps(), path(2, 10, 2, 3), path(3, 10, 2, 3))
	runs(t, net{}.both(router(1), a, 0).both(router(1), b, 0).lsps(), path(2, 0, 2), path(3, 0, 3))
	runs(t, net{}.both(router(1), a, 0).both(router(1), b, 0).both(a, b, 0).lsps(), path(2, 0, 2, 3), path(3, 0, 2, 3))
	runs(t, net{}.both(router(1), a, 5).both(a, b, 0).both(b, c, 0).both(c, a, 0).both(router(1), c, 5).lsps(), path(2, 5, 2, 4), path(3, 5, 2, 4), path(4, 5, 2, 4))
	runs(t, net{}.both(router(1), a, 10).both(router(1), b, 10).both(a, b, 0).lsps(a), path(2, 10, 2, 3), path(3, 10, 3))
	// Over a LAN onto which its members come for nothing.
	p := lan(3, 1)
	runs(t, net{}.ways(router(1), p, 4, 0).ways(a, p, 0, 0).ways(b, p, 0, 0).lsps(), path(2, 4, 2, 3), path(3, 4, 2, 3))
	runs(t, net{}.ways(router(1), p, 0, 0).ways(a, p, 0, 0).ways(b, p, 1, 0).lsps(), path(2, 0, 2), path(3, 0, 2, 3))
}

// chain answers a line of routers, from 1 on, with a link of each metric.
func chain(metrics ...uint32) []api.LSP {
	line := net{}
	for i, m := range metrics {
		line.both(router(i+1), router(i+2), m)
	}
	return line.lsps()
}

// What comes to MaxPath isn't reached, nor is what lies behind it.
func TestFar(t *testing.T) {
	links := slices.Repeat([]uint32{api.MaxLink - 1}, 254)
	rest := uint32(api.MaxPath - 254*(api.MaxLink-1))
	for _, c := range []struct {
		more []uint32
		want []spf.Path
	}{
		{nil, nil},
		{[]uint32{rest - 1}, []spf.Path{path(256, api.MaxPath-1, 2)}},
		{[]uint32{rest - 1, 0}, []spf.Path{path(256, api.MaxPath-1, 2), path(257, api.MaxPath-1, 2)}},
		{[]uint32{rest - 1, 1}, []spf.Path{path(256, api.MaxPath-1, 2)}},
		{[]uint32{rest}, nil},
		{[]uint32{rest, 0, 0}, nil},
		{[]uint32{rest + 1}, nil},
		{links, nil}, // beyond 2^32
	} {
		got, e := spf.Run(sys(1), 0, chain(append(slices.Clone(links), c.more...)...))
		if e != api.OK || len(got) != 254+len(c.want) {
			t.Fatalf("Run = %d paths, %d; want %d", len(got), e, 254+len(c.want))
		}
		if far := got[253]; !same([]spf.Path{far}, []spf.Path{path(255, 254*(api.MaxLink-1), 2)}) {
			t.Errorf("path 253 = %v", far)
		}
		if !same(got[254:], c.want) {
			t.Errorf("behind it: %v; want %v", got[254:], c.want)
		}
	}
}

// Too far one way, near enough another.
func TestFarAndNear(t *testing.T) {
	list := chain(slices.Repeat([]uint32{api.MaxLink - 1}, 300)...)
	last := &list[300]
	last.Edges[0] = append(last.Edges[0], edge(router(1), 9))
	list[0].Edges[0] = append(list[0].Edges[0], edge(router(301), 9))
	got, e := spf.Run(sys(1), 0, list)
	if e != api.OK || len(got) != 300 {
		t.Fatal(len(got), e)
	}
	for i, p := range got {
		want := path(i+2, uint32(i+1)*(api.MaxLink-1), 2)
		if i >= 150 {
			want = path(i+2, 9+uint32(299-i)*(api.MaxLink-1), 301)
		}
		if !same([]spf.Path{p}, []spf.Path{want}) {
			t.Errorf("path %d = %v; want %v", i, p, want)
		}
	}
}

func TestErrors(t *testing.T) {
	list := square().lsps()
	for _, topology := range []int{math.MinInt, -1, 2, 3, math.MaxInt} {
		fails(t, 1, topology, list, api.ErrArg)
		fails(t, 1, topology, nil, api.ErrArg)
	}
	var many []api.LSP
	for n := range api.MaxLSPs + 1 {
		many = append(many, tells(router(n)))
	}
	fails(t, 1, 0, many, api.ErrLong)
	fails(t, 1, 1, many, api.ErrLong)
	fails(t, 1, 0, many[:api.MaxLSPs], api.OK)
	twice := append(slices.Clone(list), tells(router(3)))
	fails(t, 1, 0, twice, api.ErrForm)
	fails(t, 1, 1, twice, api.ErrForm)
	fails(t, 9, 0, twice, api.ErrForm) // though the root isn't there
	fails(t, 1, 0, append(slices.Clone(list), list[0]), api.ErrForm)
	fails(t, 1, 0, []api.LSP{more(router(1), 1), more(router(1), 2), more(router(1), 1)}, api.ErrForm)
	fails(t, 1, 0, []api.LSP{tells(lan(1, 1)), tells(lan(1, 1))}, api.ErrForm)
	fails(t, 1, 0, []api.LSP{tells(lan(1, 1)), tells(lan(1, 2)), tells(router(1)), more(router(1), 1), tells(lan(2, 1))}, api.OK)
}

// As many LSPs as there may be; purges count there, though they aren't looked at.
func TestFullLists(t *testing.T) {
	links := slices.Repeat([]uint32{1}, api.MaxLSPs-1)
	list := chain(links...)
	got, e := spf.Run(sys(1), 0, list)
	if e != api.OK || len(got) != api.MaxLSPs-1 {
		t.Fatal(len(got), e)
	}
	fails(t, 1, 0, append(list, purged(tells(router(1)))), api.ErrLong)
	list[api.MaxLSPs-1] = purged(tells(router(1)))
	if got, e = spf.Run(sys(1), 0, list); e != api.OK || len(got) != api.MaxLSPs-2 {
		t.Fatal(len(got), e)
	}
}

// Of several errors the least one is answered.
func TestOrderOfErrors(t *testing.T) {
	twice := slices.Repeat([]api.LSP{tells(router(1))}, api.MaxLSPs+1)
	fails(t, 1, 2, twice, api.ErrArg)
	fails(t, 1, -1, twice[:2], api.ErrArg)
	fails(t, 1, 0, twice, api.ErrLong)
	fails(t, 1, 0, twice[:api.MaxLSPs], api.ErrForm)
}

// model is Run by the words: walks that grow by one node each, by the metric and the first router, till none is new.
type model struct {
	root  api.Node
	least map[api.Node]map[api.Node]uint32 // what nodes that are there tell
	shut  map[api.Node]bool
	walks map[api.Node]map[api.Node]uint64 // by their ends and their first routers (the root: none yet)
}

func modelOf(root api.SysID, t int, list []api.LSP) *model {
	m := &model{root: api.Node{Sys: root}, least: map[api.Node]map[api.Node]uint32{}, shut: map[api.Node]bool{}, walks: map[api.Node]map[api.Node]uint64{}}
	for _, l := range list {
		if l.Life != 0 && l.ID.Frag == 0 {
			n := l.ID.Node
			m.least[n] = map[api.Node]uint32{}
			m.walks[n] = map[api.Node]uint64{}
			m.shut[n] = l.Overload && n.Pseudo == 0 && n != m.root
		}
	}
	for _, l := range list {
		if l.Life == 0 || m.least[l.ID.Node] == nil {
			continue
		}
		for _, e := range l.Edges[t] {
			old, known := m.least[l.ID.Node][e.To]
			if e.Metric < api.MaxLink && (!known || e.Metric < old) {
				m.least[l.ID.Node][e.To] = e.Metric
			}
		}
	}
	if m.walks[m.root] != nil {
		m.walks[m.root][m.root] = 0
	}
	return m
}

// cost answers what a link from u to v costs; false: there is none.
func (m *model) cost(u, v api.Node) (uint64, bool) {
	there, ok := m.least[u][v]
	_, back := m.least[v][u]
	if u.Pseudo != 0 {
		there = 0
	}
	return uint64(there), ok && back && u != v
}

// grow makes the walks be longer by one node; false: none of them is new.
func (m *model) grow() bool {
	grown := false
	for u := range m.least {
		for v := range m.least {
			cost, ok := m.cost(u, v)
			if !ok || m.shut[u] || v == m.root {
				continue
			}
			for first, metric := range m.walks[u] {
				if first == m.root && v.Pseudo == 0 {
					first = v
				}
				if old, known := m.walks[v][first]; !known || metric+cost < old {
					m.walks[v][first] = metric + cost
					grown = true
				}
			}
		}
	}
	return grown
}

func (m *model) paths() []spf.Path {
	var list []spf.Path
	for m.grow() {
	}
	for n, walks := range m.walks {
		least := uint64(api.MaxPath)
		for _, metric := range walks {
			least = min(least, metric)
		}
		if n == m.root || n.Pseudo != 0 || least == api.MaxPath {
			continue
		}
		p := spf.Path{To: n.Sys, Metric: uint32(least)}
		for first, metric := range walks {
			if metric == least {
				p.Hops = append(p.Hops, first.Sys)
			}
		}
		slices.SortFunc(p.Hops, func(a, b api.SysID) int { return bytes.Compare(a[:], b[:]) })
		list = append(list, p)
	}
	slices.SortFunc(list, func(a, b spf.Path) int { return bytes.Compare(a.To[:], b.To[:]) })
	return list
}

// some answers LSPs of a net of few nodes: metrics are often equal, and often 0.
func some(r *rand.Rand) []api.LSP {
	var nodes []api.Node
	for n := range 1 + r.Intn(9) {
		nodes = append(nodes, api.Node{Sys: sys(1 + r.Intn(n+1)), Pseudo: byte(max(0, r.Intn(5)-2))})
	}
	most := []uint32{1, 2, 3, 12}[r.Intn(4)]
	metric := func() uint32 {
		switch r.Intn(40) {
		case 0:
			return api.MaxLink - uint32(r.Intn(3)) + 1
		case 1:
			return r.Uint32()
		}
		return uint32(r.Intn(int(most)))
	}
	edges := map[api.LSPID]*[2][]api.Edge{}
	for _, n := range nodes {
		edges[api.LSPID{Node: n}] = &[2][]api.Edge{}
	}
	put := func(t int, from, to api.Node) {
		id := api.LSPID{Node: from, Frag: byte(max(0, r.Intn(6)-3))}
		if edges[id] == nil {
			edges[id] = &[2][]api.Edge{}
		}
		edges[id][t] = append(edges[id][t], edge(to, metric()))
	}
	for range r.Intn(30) {
		t, a, b := r.Intn(2), nodes[r.Intn(len(nodes))], nodes[r.Intn(len(nodes))]
		put(t, a, b)
		if r.Intn(8) != 0 {
			put(t, b, a)
		}
	}
	var list []api.LSP
	for id, e := range edges {
		l := api.LSP{ID: id, Life: 1, Overload: r.Intn(7) == 0, Edges: *e}
		if r.Intn(25) == 0 {
			l.Life = 0
		}
		list = append(list, l)
	}
	r.Shuffle(len(list), func(i, k int) { list[i], list[k] = list[k], list[i] })
	return list
}

func TestAgainstModel(t *testing.T) {
	for seed := range 20000 {
		r := rand.New(rand.NewSource(int64(seed)))
		list := some(r)
		for topology := range 2 {
			got, e := spf.Run(sys(1), topology, list)
			if want := modelOf(sys(1), topology, list).paths(); !same(got, want) || e != api.OK {
				t.Fatalf("seed %d: Run(%d, %v) = %v, %d; want %v", seed, topology, list, got, e, want)
			}
		}
	}
}

// A net where each of many nodes is linked with each, for nothing: every router is a hop to every one.
func TestDense(t *testing.T) {
	const count = 200
	list := make([]api.LSP, count)
	for n := range count {
		list[n] = tells(router(n + 1))
		for k := range count {
			list[n].Edges[0] = append(list[n].Edges[0], edge(router(k+1), 0))
		}
	}
	got, e := spf.Run(sys(1), 0, list)
	if e != api.OK || len(got) != count-1 {
		t.Fatal(len(got), e)
	}
	for i, p := range got {
		if p.To != sys(i+2) || p.Metric != 0 || len(p.Hops) != count-1 || p.Hops[0] != sys(2) || p.Hops[count-2] != sys(count) {
			t.Fatal(i, p)
		}
	}
}

// What holds everywhere: P2, and memory.

func TestTheSameAgain(t *testing.T) {
	for seed := range 50 {
		list := some(rand.New(rand.NewSource(int64(seed))))
		first, _ := spf.Run(sys(1), 0, list)
		for range 20 {
			if again, e := spf.Run(sys(1), 0, list); !same(first, again) || e != api.OK {
				t.Fatalf("seed %d: %v, then %v", seed, first, again)
			}
		}
	}
}

// spoil writes over a list and its spare room.
func spoil[T any](list []T, one T) {
	list = list[:cap(list)]
	for i := range list {
		list[i] = one
	}
}

func TestMemory(t *testing.T) {
	fresh := func() []api.LSP {
		list := append(square().both(router(4), router(5), 1).lsps(), purged(tells(router(6))))
		for i := range list {
			for k := range list[i].Edges {
				room := append(slices.Clone(list[i].Edges[k]), edge(router(77), 77), edge(router(78), 78))
				list[i].Edges[k] = room[:len(room)-2]
			}
		}
		room := append(list, tells(router(99)), tells(router(98)))
		return room[:len(list)]
	}
	whole := func(list []api.LSP) []api.LSP {
		all := slices.Clone(list[:len(list)+2])
		for i := range list {
			for k := range all[i].Edges {
				all[i].Edges[k] = all[i].Edges[k][:len(all[i].Edges[k])+2]
			}
		}
		return all
	}
	list := fresh()
	want := []spf.Path{path(2, 10, 2), path(3, 10, 3), path(4, 15, 2, 3), path(5, 16, 2, 3)}
	a, _ := spf.Run(sys(1), 0, list)
	b, _ := spf.Run(sys(1), 0, list)
	if !reflect.DeepEqual(whole(list), whole(fresh())) {
		t.Fatal("what was handed in has changed")
	}
	for i := range b {
		spoil(b[i].Hops, sys(0x99))
		for k := i + 1; k < len(b); k++ {
			if !slices.Equal(b[k].Hops, want[k].Hops) {
				t.Fatalf("hops %d and %d share memory", i, k)
			}
		}
	}
	spoil(b, spf.Path{})
	for _, l := range list {
		spoil(l.Edges[0], api.Edge{})
	}
	spoil(list, api.LSP{})
	if !same(a, want) {
		t.Fatalf("an answer hangs on what was handed in, or on another answer: %v", a)
	}
}
