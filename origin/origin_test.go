package origin_test

import (
	"bytes"
	"math"
	"math/rand"
	"reflect"
	"slices"
	"strings"
	"testing"

	"waymark/api"
	"waymark/lsp"
	"waymark/origin"
	"waymark/prefix"
)

const mostFragments = 256

// told answers a prefix that is reached.
func told(text string, metric uint32) api.Reach {
	p, e := prefix.Parse(text)
	if e != api.OK {
		panic(text)
	}
	return api.Reach{Prefix: p, Metric: metric}
}

// to answers an edge.
func to(last byte, metric uint32) api.Edge {
	return api.Edge{To: api.Node{Sys: api.SysID{5: last}}, Metric: metric}
}

// edges answers count edges, no two of them the same.
func edges(count int) []api.Edge {
	var list []api.Edge
	for i := range count {
		list = append(list, to(byte(i), uint32(i)))
	}
	return list
}

// reaches answers count prefixes of the topology t, no two of them the same.
func reaches(t, count int) []api.Reach {
	text := []string{"10.1.0.0/16", "2001:db8::/32"}[t]
	var list []api.Reach
	for i := range count {
		r := told(text, uint32(i))
		r.Down = i%3 == 0
		list = append(list, r)
	}
	return list
}

var node = api.Node{Sys: api.SysID{1, 2, 3, 4, 5, 6}, Pseudo: 7}

// full answers what tells something of each kind, in several fragments.
func full(level int) origin.Own {
	return origin.Own{
		Level: level, Node: node, Overload: true, Attached: [2]bool{true, true},
		Areas: [][]byte{{0x49, 1}, {0x47}},
		Host:  "r1",
		Edges: [2][]api.Edge{edges(20), edges(3)},
		Reach: [2][]api.Reach{reaches(0, 9), reaches(1, 17)},
	}
}

// sameLSP tells whether two LSPs are the same, nil and empty lists too.
func sameLSP(a, b api.LSP) bool {
	return reflect.DeepEqual(plain(a), plain(b))
}

// plain answers l with nil in place of its empty lists.
func plain(l api.LSP) api.LSP {
	areas := l.Areas
	l.Areas = nil
	for _, area := range areas {
		l.Areas = append(l.Areas, append([]byte{}, area...))
	}
	for t := range 2 {
		l.Edges[t] = append([]api.Edge(nil), l.Edges[t]...)
		l.Reach[t] = append([]api.Reach(nil), l.Reach[t]...)
	}
	return l
}

func sameLSPs(a, b []api.LSP) bool {
	return slices.EqualFunc(a, b, sameLSP)
}

// builds looks at what Build answers of what is in order.
func builds(t *testing.T, o origin.Own, want ...api.LSP) {
	t.Helper()
	if got, e := origin.Build(o); !sameLSPs(got, want) || e != api.OK {
		t.Errorf("Build(%v) = %v, %d; want %v", o, got, e, want)
	}
}

// frag answers the ID of a fragment of node.
func frag(n int) api.LSPID {
	return api.LSPID{Node: node, Frag: byte(n)}
}

// P14.1

func TestBuildExamples(t *testing.T) {
	nine := edges(9)
	builds(t, origin.Own{Level: 1, Node: node, Edges: [2][]api.Edge{nine}},
		api.LSP{Level: 1, ID: frag(0), Edges: [2][]api.Edge{nine[:8]}},
		api.LSP{Level: 1, ID: frag(1), Edges: [2][]api.Edge{nine[8:]}})
	builds(t, origin.Own{Level: 2, Node: node}, api.LSP{Level: 2, ID: frag(0)})
	builds(t, origin.Own{Level: 1}, api.LSP{Level: 1})
	builds(t, origin.Own{Level: 1, Edges: [2][]api.Edge{{}, {}}, Reach: [2][]api.Reach{{}, {}}, Areas: [][]byte{}}, api.LSP{Level: 1})
}

// Of each kind there is something; it is told once, where it belongs.
func TestBuildAll(t *testing.T) {
	for _, level := range []int{1, 2} {
		e0, e1, r0, r1 := edges(20), edges(3), reaches(0, 9), reaches(1, 17)
		builds(t, full(level),
			api.LSP{
				Level: level, ID: frag(0), Overload: true, Attached: [2]bool{true, true}, Areas: [][]byte{{0x49, 1}, {0x47}}, Host: "r1",
				Edges: [2][]api.Edge{e0[:8], e1}, Reach: [2][]api.Reach{r0[:8], r1[:8]},
			},
			api.LSP{Level: level, ID: frag(1), Edges: [2][]api.Edge{e0[8:16]}, Reach: [2][]api.Reach{r0[8:], r1[8:16]}},
			api.LSP{Level: level, ID: frag(2), Edges: [2][]api.Edge{e0[16:]}, Reach: [2][]api.Reach{nil, r1[16:]}})
	}
}

// Each of these stands in fragment 0 as it was given, by itself.
func TestBuildHeads(t *testing.T) {
	for which := range 1 << 5 {
		o := full(1)
		if which&1 == 0 {
			o.Areas = nil
		}
		if which&2 == 0 {
			o.Host = ""
		}
		o.Overload = which&4 != 0
		o.Attached = [2]bool{which&8 != 0, which&16 != 0}
		list, e := origin.Build(o)
		if e != api.OK || len(list) != 3 {
			t.Fatal(list, e)
		}
		for n, l := range list {
			is := n == 0
			if l.Overload != (is && o.Overload) || is && l.Attached != o.Attached || !is && l.Attached != [2]bool{} {
				t.Errorf("fragment %d of %v: %v", n, o, l)
			}
			if is && (l.Host != o.Host || !slices.EqualFunc(l.Areas, o.Areas, bytes.Equal)) || !is && (l.Host != "" || len(l.Areas) > 0) {
				t.Errorf("fragment %d of %v: %v", n, o, l)
			}
		}
	}
}

// counts are lengths of lists, and how many fragments a list so long needs.
var counts = map[int]int{0: 1, 1: 1, 7: 1, 8: 1, 9: 2, 15: 2, 16: 2, 17: 3, 2040: 255, 2041: 256, 2047: 256, 2048: 256}

// own answers what has a list of that length, one of the four.
func own(which, length int) origin.Own {
	o := origin.Own{Level: 2, Node: node, Host: "r"}
	if which < 2 {
		o.Edges[which] = edges(length)
	} else {
		o.Reach[which-2] = reaches(which-2, length)
	}
	return o
}

// Each of the four lists alone makes as many fragments as it needs.
func TestBuildCounts(t *testing.T) {
	for length, count := range counts {
		for which := range 4 {
			o := own(which, length)
			list, e := origin.Build(o)
			if e != api.OK || len(list) != count {
				t.Fatalf("list %d of %d: %d fragments, %d; want %d", which, length, len(list), e, count)
			}
			checkFragments(t, o, list)
		}
	}
}

// checkFragments looks at whether the fragments tell what o has, the one as full as the other.
func checkFragments(t *testing.T, o origin.Own, list []api.LSP) {
	t.Helper()
	var all api.LSP
	for n, l := range list {
		if l.Level != o.Level || l.ID != (api.LSPID{Node: o.Node, Frag: byte(n)}) || l.Seq != 0 || l.Life != 0 {
			t.Fatalf("fragment %d: %v", n, l)
		}
		for i := range 2 {
			// What stands ahead is full wherever something stands behind.
			if len(l.Edges[i]) > 0 && len(all.Edges[i]) != n*api.MaxItems || len(l.Reach[i]) > 0 && len(all.Reach[i]) != n*api.MaxItems {
				t.Fatalf("fragment %d: %v behind one that isn't full", n, l)
			}
			if len(l.Edges[i]) > api.MaxItems || len(l.Reach[i]) > api.MaxItems {
				t.Fatalf("fragment %d: %v has too much", n, l)
			}
			all.Edges[i] = append(all.Edges[i], l.Edges[i]...)
			all.Reach[i] = append(all.Reach[i], l.Reach[i]...)
		}
	}
	for i := range 2 {
		if !slices.Equal(all.Edges[i], o.Edges[i]) || !slices.Equal(all.Reach[i], o.Reach[i]) {
			t.Fatalf("%v isn't what was told", all)
		}
	}
}

func TestBuildSome(t *testing.T) {
	r := rand.New(rand.NewSource(141))
	for range 500 {
		o := origin.Own{Level: 1 + r.Intn(2), Node: node, Host: "h", Overload: r.Intn(2) == 0}
		most := 0
		for i := range 2 {
			o.Edges[i] = edges(r.Intn(40))
			o.Reach[i] = reaches(i, r.Intn(40))
			most = max(most, len(o.Edges[i]), len(o.Reach[i]))
		}
		list, e := origin.Build(o)
		if e != api.OK || len(list) != max(1, (most+7)/8) {
			t.Fatal(o, list, e)
		}
		checkFragments(t, o, list)
		for _, l := range list {
			if _, e := lsp.Make(l); e != api.OK {
				t.Fatal(l, e)
			}
		}
	}
}

// At the limits all goes well.
func TestBuildAtTheLimits(t *testing.T) {
	o := origin.Own{
		Level: 1, Node: node, Areas: [][]byte{make([]byte, 13), {1}, make([]byte, 13)}, Host: strings.Repeat("h", 63),
		Edges: [2][]api.Edge{slices.Repeat([]api.Edge{to(1, api.MaxLink)}, 2048), slices.Repeat([]api.Edge{to(1, 0)}, 2048)},
		Reach: [2][]api.Reach{slices.Repeat([]api.Reach{told("1.2.3.4/32", 1<<32-1)}, 2048), slices.Repeat([]api.Reach{told("::/0", 0)}, 2048)},
	}
	list, e := origin.Build(o)
	if e != api.OK || len(list) != mostFragments || list[255].ID.Frag != 255 || list[0].Host != o.Host || len(list[0].Areas) != 3 {
		t.Fatal(len(list), e)
	}
	checkFragments(t, o, list)
}

// atLast puts one thing behind a list, so that it stands in a fragment behind the first.
func atLast[T any](list []T, one T) []T {
	return append(slices.Clip(list), one)
}

// ahead puts one thing ahead of a list.
func ahead[T any](list []T, one T) []T {
	return append([]T{one}, list...)
}

// faults are what keeps something from being told, by the errors; several may stand together.
var faults = map[api.Errno][]func(*origin.Own){
	api.ErrArg: {
		func(o *origin.Own) { o.Level = 0 }, func(o *origin.Own) { o.Level = 3 }, func(o *origin.Own) { o.Level = -1 },
		func(o *origin.Own) { o.Level = math.MaxInt }, func(o *origin.Own) { o.Level = math.MinInt },
	},
	api.ErrLong: {
		func(o *origin.Own) { o.Edges[0] = append(o.Edges[0], edges(2049-len(o.Edges[0]))...) },
		func(o *origin.Own) { o.Edges[1] = append(o.Edges[1], edges(2049-len(o.Edges[1]))...) },
		func(o *origin.Own) { o.Reach[0] = append(o.Reach[0], reaches(0, 4000)...) },
		func(o *origin.Own) { o.Reach[1] = append(o.Reach[1], reaches(1, 2049-len(o.Reach[1]))...) },
		func(o *origin.Own) { o.Areas = append(o.Areas, []byte{1}, []byte{2}, []byte{3}) },
		func(o *origin.Own) { o.Host = strings.Repeat("h", 64) },
		func(o *origin.Own) { o.Host = strings.Repeat("h", 1000) },
	},
	api.ErrForm: {
		func(o *origin.Own) { o.Areas = ahead(o.Areas[:1], nil) }, func(o *origin.Own) { o.Areas = atLast(o.Areas[:1], []byte{}) },
		func(o *origin.Own) { o.Areas = atLast(o.Areas[:2], make([]byte, 14)) },
		func(o *origin.Own) { o.Areas = atLast(o.Areas[:2], make([]byte, 256)) },
		func(o *origin.Own) { o.Reach[0] = ahead(o.Reach[0], told("2001::/16", 1)) },
		func(o *origin.Own) { o.Reach[0] = atLast(o.Reach[0], told("2001::/16", 1)) },
		func(o *origin.Own) { o.Reach[1] = ahead(o.Reach[1], told("10.0.0.0/8", 1)) },
		func(o *origin.Own) { o.Reach[1] = atLast(o.Reach[1], told("10.0.0.0/8", 1)) },
		func(o *origin.Own) { o.Reach[0] = atLast(o.Reach[0], api.Reach{}) },
		func(o *origin.Own) { o.Reach[1] = ahead(o.Reach[1], api.Reach{}) },
		func(o *origin.Own) {
			o.Reach[0] = atLast(o.Reach[0], api.Reach{Prefix: api.Prefix{Fam: 4, Len: 33}})
		},
		func(o *origin.Own) {
			o.Reach[0] = atLast(o.Reach[0], api.Reach{Prefix: api.Prefix{Fam: 4, Len: 8, Addr: [16]byte{10, 1}}})
		},
		func(o *origin.Own) {
			o.Reach[1] = atLast(o.Reach[1], api.Reach{Prefix: api.Prefix{Fam: 6, Len: -1}})
		},
		func(o *origin.Own) {
			o.Reach[1] = atLast(o.Reach[1], api.Reach{Prefix: api.Prefix{Fam: 6, Len: 127, Addr: [16]byte{15: 1}}})
		},
	},
	api.ErrRange: {
		func(o *origin.Own) { o.Edges[0] = ahead(o.Edges[0], to(1, api.MaxLink+1)) },
		func(o *origin.Own) { o.Edges[0] = atLast(o.Edges[0], to(1, api.MaxLink+1)) },
		func(o *origin.Own) { o.Edges[1] = ahead(o.Edges[1], to(1, 1<<32-1)) },
		func(o *origin.Own) { o.Edges[1] = atLast(edges(16), to(1, 1<<32-1)) },
	},
}

// refused looks at the error that Build answers, and nothing beside it.
func refused(t *testing.T, o origin.Own, want api.Errno) {
	t.Helper()
	if list, e := origin.Build(o); len(list) != 0 || e != want {
		t.Errorf("Build: %d LSPs, %d; want error %d", len(list), e, want)
	}
}

func TestBuildErrors(t *testing.T) {
	for e, list := range faults {
		for _, fault := range list {
			for _, level := range []int{1, 2} {
				o := full(level)
				fault(&o)
				refused(t, o, e)
			}
		}
	}
}

// Of two errors the one with the least number is answered, wherever they stand.
func TestBuildOrderOfErrors(t *testing.T) {
	for e, list := range faults {
		for f, others := range faults {
			if e >= f {
				continue
			}
			for _, fault := range list {
				for _, other := range others {
					o := full(1)
					other(&o)
					fault(&o)
					refused(t, o, e)
				}
			}
		}
	}
}

// P14.2

func TestNext(t *testing.T) {
	for _, seq := range []uint32{0, 1, 2, 255, 256, 65535, 1<<31 - 1, 1 << 31, 1<<32 - 2} {
		if n, e := origin.Next(seq); n != seq+1 || e != api.OK {
			t.Errorf("Next(%d) = %d, %d", seq, n, e)
		}
	}
	if n, e := origin.Next(1<<32 - 1); n != 0 || e != api.ErrEnd {
		t.Errorf("Next of the last: %d, %d", n, e)
	}
}

// P14.3

// plans looks at what Plan answers of lists that are in order.
func plans(t *testing.T, have, want, tell []api.LSP, gone ...api.LSPID) {
	t.Helper()
	gotTell, gotGone, e := origin.Plan(have, want)
	if !sameLSPs(gotTell, tell) || !slices.Equal(gotGone, gone) || e != api.OK {
		t.Errorf("Plan(%v, %v) = %v, %v, %d; want %v, %v", have, want, gotTell, gotGone, e, tell, gone)
	}
}

// plansNot looks at the error that Plan answers, and nothing beside it.
func plansNot(t *testing.T, have, want []api.LSP, e api.Errno) {
	t.Helper()
	if tell, gone, got := origin.Plan(have, want); len(tell) != 0 || len(gone) != 0 || got != e {
		t.Errorf("Plan: %d and %d LSPs, %d; want error %d", len(tell), len(gone), got, e)
	}
}

// sample answers the fragment n, in which something of each kind is.
func sample(n int) api.LSP {
	return api.LSP{
		Level: 1, ID: frag(n), Overload: true, Attached: [2]bool{true, false},
		Areas: [][]byte{{0x49, 1}, {0x47}}, Host: "r1",
		Edges: [2][]api.Edge{edges(3), edges(2)}, Reach: [2][]api.Reach{reaches(0, 2), reaches(1, 3)},
	}
}

// with answers l with that number and that life.
func with(l api.LSP, seq uint32, life int) api.LSP {
	l.Seq, l.Life = seq, life
	return l
}

func TestPlanExamples(t *testing.T) {
	a, b, c := sample(1), sample(2), sample(3)
	plans(t, []api.LSP{with(a, 4, 9), with(b, 2, 9)}, []api.LSP{a, c}, []api.LSP{with(c, 1, 1200)}, b.ID)
	other := sample(1)
	other.Edges[0][1].Metric++
	plans(t, []api.LSP{with(a, 4, 9)}, []api.LSP{other}, []api.LSP{with(other, 5, 1200)})
}

func TestPlanOfNothing(t *testing.T) {
	a, b := sample(1), sample(2)
	for _, none := range [][]api.LSP{nil, {}} {
		plans(t, none, none, nil)
		plans(t, none, []api.LSP{b, a}, []api.LSP{with(b, 1, 1200), with(a, 1, 1200)})
		plans(t, []api.LSP{b, a}, none, nil, b.ID, a.ID)
	}
}

// What is told, and what is gone, stands in the order of its own list.
func TestPlanOrder(t *testing.T) {
	news := sample(8)
	news.Host = "r2"
	have := []api.LSP{sample(7), with(sample(5), 3, 0), sample(9), with(sample(8), 6, 1), sample(1)}
	want := []api.LSP{sample(4), sample(5), sample(6), news, sample(2), sample(3)}
	plans(t, have, want,
		[]api.LSP{with(sample(4), 1, 1200), with(sample(6), 1, 1200), with(news, 7, 1200), with(sample(2), 1, 1200), with(sample(3), 1, 1200)},
		frag(7), frag(9), frag(1))
}

// turns make something else be in a sample.
var turns = []func(*api.LSP){
	func(l *api.LSP) { l.Level = 2 }, func(l *api.LSP) { l.Level = -7 },
	func(l *api.LSP) { l.Overload = false },
	func(l *api.LSP) { l.Attached[0] = false }, func(l *api.LSP) { l.Attached[1] = true }, func(l *api.LSP) { l.Attached = [2]bool{false, true} },
	func(l *api.LSP) { l.Host = "" }, func(l *api.LSP) { l.Host = "r2" }, func(l *api.LSP) { l.Host = "r1 " }, func(l *api.LSP) { l.Host = strings.Repeat("h", 99) },
	func(l *api.LSP) { l.Areas = nil }, func(l *api.LSP) { l.Areas = l.Areas[:1] }, func(l *api.LSP) { l.Areas = atLast(l.Areas, []byte{1}) },
	func(l *api.LSP) { l.Areas = atLast(l.Areas, nil) }, func(l *api.LSP) { l.Areas[1] = nil },
	func(l *api.LSP) { l.Areas[0][1]++ }, func(l *api.LSP) { l.Areas[1] = []byte{0x47, 0} }, func(l *api.LSP) { slices.Reverse(l.Areas) },
	func(l *api.LSP) { l.Edges[0] = nil }, func(l *api.LSP) { l.Edges[1] = nil }, func(l *api.LSP) { l.Edges[0] = l.Edges[0][:2] },
	func(l *api.LSP) { l.Edges[1] = atLast(l.Edges[1], to(2, 2)) }, func(l *api.LSP) { l.Edges[0] = edges(300) },
	func(l *api.LSP) { l.Edges[0][0].Metric++ }, func(l *api.LSP) { l.Edges[1][1].Metric = 1<<32 - 1 },
	func(l *api.LSP) { l.Edges[0][2].To.Pseudo++ }, func(l *api.LSP) { l.Edges[1][0].To.Sys[0]++ }, func(l *api.LSP) { slices.Reverse(l.Edges[0]) },
	func(l *api.LSP) { l.Edges[0], l.Edges[1] = l.Edges[1], l.Edges[0] },
	func(l *api.LSP) { l.Reach[0] = nil }, func(l *api.LSP) { l.Reach[1] = nil }, func(l *api.LSP) { l.Reach[1] = l.Reach[1][:1] },
	func(l *api.LSP) { l.Reach[0] = atLast(l.Reach[0], told("10.0.0.0/8", 0)) },
	func(l *api.LSP) { l.Reach[0][1].Metric++ }, func(l *api.LSP) { l.Reach[1][0].Metric++ },
	func(l *api.LSP) { l.Reach[0][0].Down = false }, func(l *api.LSP) { l.Reach[1][2].Down = true },
	func(l *api.LSP) { l.Reach[0][0].Prefix.Addr[1]++ }, func(l *api.LSP) { l.Reach[1][1].Prefix.Addr[15]++ },
	func(l *api.LSP) { l.Reach[0][1].Prefix.Len++ }, func(l *api.LSP) { l.Reach[1][2].Prefix.Fam = 9 }, func(l *api.LSP) { slices.Reverse(l.Reach[1]) },
	func(l *api.LSP) { l.Reach[0], l.Reach[1] = l.Reach[1], l.Reach[0] },
}

// Whatever else it is that is in an LSP: it must be told anew. What it was, and what it is now, may be in any form.
func TestPlanTurned(t *testing.T) {
	for _, turn := range turns {
		other := sample(3)
		turn(&other)
		have := []api.LSP{sample(2), with(sample(3), 41, 1000), sample(4)}
		want := []api.LSP{sample(4), with(other, 77, 3), sample(2)}
		plans(t, have, want, []api.LSP{with(other, 42, 1200)})
		have[1], want[1] = with(other, 41, 1000), with(sample(3), 77, 3)
		plans(t, have, want, []api.LSP{with(sample(3), 42, 1200)})
		same := sample(3)
		turn(&same)
		plans(t, []api.LSP{with(other, 5, 6)}, []api.LSP{with(same, 7, 8)}, nil)
	}
}

// Another ID, if only in one part of it, is another LSP.
func TestPlanIDs(t *testing.T) {
	for _, turn := range []func(*api.LSPID){
		func(id *api.LSPID) { id.Frag++ }, func(id *api.LSPID) { id.Node.Pseudo++ },
		func(id *api.LSPID) { id.Node.Sys[0]++ }, func(id *api.LSPID) { id.Node.Sys[5]++ },
	} {
		a, b := sample(1), sample(1)
		turn(&b.ID)
		plans(t, []api.LSP{with(a, 9, 9)}, []api.LSP{b}, []api.LSP{with(b, 1, 1200)}, a.ID)
		plans(t, []api.LSP{a, b}, []api.LSP{b, a}, nil)
	}
}

// An LSP in which nothing is must be told as well, where there is none.
func TestPlanBare(t *testing.T) {
	bare := api.LSP{ID: frag(1)}
	plans(t, nil, []api.LSP{bare, {}}, []api.LSP{with(bare, 1, 1200), {Seq: 1, Life: 1200}})
	plans(t, []api.LSP{{}}, []api.LSP{{}, bare}, []api.LSP{with(bare, 1, 1200)})
	plans(t, []api.LSP{bare}, []api.LSP{{}}, []api.LSP{{Seq: 1, Life: 1200}}, bare.ID)
}

// Seq and Life aren't looked at: the one is counted on from what is held, the other one begins anew.
func TestPlanSeqAndLife(t *testing.T) {
	other := sample(1)
	other.Host = "r2"
	for _, life := range []int{math.MinInt, -1, 0, 1, 300, 1200, math.MaxInt} {
		for _, seq := range []uint32{0, 1, 2, 1<<32 - 2} {
			for _, wanted := range []uint32{0, 1, seq, seq + 1, 1<<32 - 1} {
				have := []api.LSP{with(sample(1), seq, life)}
				plans(t, have, []api.LSP{with(sample(1), wanted, 5)}, nil)
				plans(t, have, []api.LSP{with(other, wanted, life)}, []api.LSP{with(other, seq+1, 1200)})
				plans(t, nil, []api.LSP{with(other, wanted, life)}, []api.LSP{with(other, 1, 1200)})
			}
		}
	}
}

// Nil and empty lists are the same.
func TestPlanEmptyLists(t *testing.T) {
	none := api.LSP{ID: frag(1), Level: 1}
	empty := none
	empty.Areas, empty.Edges, empty.Reach = [][]byte{}, [2][]api.Edge{{}, {}}, [2][]api.Reach{{}, {}}
	plans(t, []api.LSP{none}, []api.LSP{empty}, nil)
	plans(t, []api.LSP{empty}, []api.LSP{none}, nil)
	none.Areas, empty.Areas = [][]byte{nil}, [][]byte{{}}
	plans(t, []api.LSP{none}, []api.LSP{empty}, nil)
	plans(t, []api.LSP{empty}, []api.LSP{none}, nil)
}

// samples answers count LSPs.
func samples(count int) []api.LSP {
	var list []api.LSP
	for i := range count {
		l := api.LSP{Level: 1, ID: frag(i), Host: "h"}
		l.ID.Node.Pseudo = byte(i >> 8)
		list = append(list, l)
	}
	return list
}

func TestPlanLong(t *testing.T) {
	most, more := samples(mostFragments), samples(mostFragments+1)
	plans(t, most, most, nil)
	plansNot(t, more, most, api.ErrLong)
	plansNot(t, most, more, api.ErrLong)
	plansNot(t, more, nil, api.ErrLong)
	plansNot(t, nil, more, api.ErrLong)
	plansNot(t, more, more, api.ErrLong)
	plansNot(t, samples(1000), more, api.ErrLong)
	// Ahead of ErrForm and ErrEnd.
	plansNot(t, append(samples(mostFragments), most[0]), nil, api.ErrLong)
	plansNot(t, []api.LSP{sample(1), sample(1)}, more, api.ErrLong)
	last := with(sample(1), 1<<32-1, 1)
	plansNot(t, []api.LSP{last}, more, api.ErrLong)

	gone := make([]api.LSPID, mostFragments)
	for i, l := range most {
		gone[i] = l.ID
		most[i].Seq = uint32(i)
	}
	plans(t, most, nil, nil, gone...)
	tell := samples(mostFragments)
	for i := range tell {
		tell[i].Host = ""
	}
	want := slices.Clone(tell)
	for i := range tell {
		tell[i] = with(tell[i], uint32(i)+1, 1200)
	}
	plans(t, most, want, tell)
}

func TestPlanForm(t *testing.T) {
	a, b := sample(1), sample(2)
	other := sample(1)
	other.Host = "r2"
	for _, twice := range [][]api.LSP{
		{a, a}, {a, other}, {a, with(a, 2, 0)}, {b, a, other}, {a, b, a}, {with(a, 1<<32-1, 1), b, other},
		append(samples(mostFragments-1), samples(1)...),
	} {
		for _, list := range [][]api.LSP{nil, {a}, {b}, {a, b}, twice} {
			plansNot(t, twice, list, api.ErrForm)
			plansNot(t, list, twice, api.ErrForm)
		}
	}
	// Ahead of ErrEnd.
	plansNot(t, []api.LSP{with(a, 1<<32-1, 1)}, []api.LSP{other, b, b}, api.ErrForm)
	// In both lists one ID may stand: that is no fault.
	plans(t, []api.LSP{a, b}, []api.LSP{b, a}, nil)
}

func TestPlanEnd(t *testing.T) {
	a, b, c := with(sample(1), 1<<32-1, 5), sample(2), sample(3)
	for _, turn := range turns {
		other := sample(1)
		turn(&other)
		for _, want := range [][]api.LSP{{other}, {b, other}, {other, c}, {c, b, other}} {
			plansNot(t, []api.LSP{a}, want, api.ErrEnd)
			plansNot(t, []api.LSP{b, a}, want, api.ErrEnd)
		}
	}
	// It stays as it is, or isn't wanted any more: nothing must be told anew.
	plans(t, []api.LSP{a, b}, []api.LSP{sample(1), c}, []api.LSP{with(c, 1, 1200)}, b.ID)
	plans(t, []api.LSP{a, b}, []api.LSP{b}, nil, a.ID)
	// The wanted one's own number isn't looked at.
	plans(t, []api.LSP{b}, []api.LSP{b, a}, []api.LSP{with(a, 1, 1200)})
}

// The plan is held against one that looks for each LSP by going through the lists.
func TestPlanSome(t *testing.T) {
	r := rand.New(rand.NewSource(143))
	for range 3000 {
		have, want := someLSPs(r), someLSPs(r)
		var tell []api.LSP
		var gone []api.LSPID
		for _, l := range want {
			at := slices.IndexFunc(have, func(h api.LSP) bool { return h.ID == l.ID })
			switch {
			case at < 0:
				tell = append(tell, with(l, 1, 1200))
			case !sameLSP(with(have[at], 0, 0), with(l, 0, 0)):
				tell = append(tell, with(l, have[at].Seq+1, 1200))
			}
		}
		for _, h := range have {
			if !slices.ContainsFunc(want, func(l api.LSP) bool { return h.ID == l.ID }) {
				gone = append(gone, h.ID)
			}
		}
		plans(t, have, want, tell, gone...)
		plans(t, have, want, tell, gone...) // and again
	}
}

// someLSPs answers LSPs, no two of one ID, many of them alike.
func someLSPs(r *rand.Rand) []api.LSP {
	var list []api.LSP
	for _, n := range r.Perm(8)[:r.Intn(9)] {
		l := sample(n)
		if r.Intn(2) == 0 {
			turns[r.Intn(len(turns))](&l)
		}
		list = append(list, with(l, uint32(r.Intn(1000)), r.Intn(1201)))
	}
	return list
}

// What was built, told, and built again needs no telling.
func TestBuildThenPlan(t *testing.T) {
	want, _ := origin.Build(full(2))
	tell, gone, e := origin.Plan(nil, want)
	if len(tell) != 3 || len(gone) != 0 || e != api.OK {
		t.Fatal(tell, gone, e)
	}
	again, _ := origin.Build(full(2))
	plans(t, tell, again, nil)
	less := full(2)
	less.Edges[0], less.Reach[1] = less.Edges[0][:16], less.Reach[1][:16]
	again, _ = origin.Build(less)
	plans(t, tell, again, nil, frag(2))
	less.Host = "r2"
	again, _ = origin.Build(less)
	plans(t, tell, again, []api.LSP{with(again[0], 2, 1200)}, frag(2))
}

// What holds everywhere: memory.

// spoil writes over all that stands in an LSP, and over its lists' spare room.
func spoil(l *api.LSP) {
	for _, area := range l.Areas {
		area = area[:cap(area)]
		for i := range area {
			area[i] = 0x99
		}
	}
	fill(l.Areas, []byte{0x99})
	for t := range 2 {
		fill(l.Edges[t], to(0x99, 0x99))
		fill(l.Reach[t], told("9.9.9.9/32", 9))
	}
}

// fill writes over a list and its spare room.
func fill[T any](list []T, one T) {
	list = list[:cap(list)]
	for i := range list {
		list[i] = one
	}
}

// parts answers an LSP for each list of l, which has it alone.
func parts(l *api.LSP) []*api.LSP {
	list := []*api.LSP{{Edges: [2][]api.Edge{l.Edges[0]}}, {Edges: [2][]api.Edge{l.Edges[1]}}, {Reach: [2][]api.Reach{l.Reach[0]}}, {Reach: [2][]api.Reach{l.Reach[1]}}}
	for _, area := range l.Areas {
		list = append(list, &api.LSP{Areas: [][]byte{area}})
	}
	return list
}

// apart looks at whether all lists of these LSPs have memory of their own: each is spoilt, and the others must stay.
func apart(t *testing.T, list []api.LSP) {
	t.Helper()
	var all []*api.LSP
	for i := range list {
		all = append(all, parts(&list[i])...)
	}
	var were []api.LSP
	for _, l := range all {
		were = append(were, plain(*l))
	}
	for i, l := range all {
		spoil(l)
		for j := i + 1; j < len(all); j++ {
			if !sameLSP(*all[j], were[j]) {
				t.Fatalf("lists %d and %d share memory", i, j)
			}
		}
	}
}

// roomy answers a list with spare room, in which spare stands.
func roomy[T any](list []T, spare T) []T {
	room := append(slices.Clone(list), spare, spare, spare, spare)
	return room[:len(list)]
}

// isRoomy tells whether the spare room that roomy made is as it was.
func isRoomy[T any](list []T, spare T) bool {
	room := list[len(list) : len(list)+4]
	return reflect.DeepEqual(slices.Clone(room), []T{spare, spare, spare, spare})
}

func TestBuildMemory(t *testing.T) {
	fresh := func() origin.Own {
		o := full(1)
		o.Areas = roomy(o.Areas, []byte{0xee})
		o.Areas[0] = roomy(o.Areas[0], 0xee)
		for i := range 2 {
			o.Edges[i] = roomy(o.Edges[i], to(0xee, 1))
			o.Reach[i] = roomy(o.Reach[i], told("3.3.3.3/32", 3))
		}
		return o
	}
	o := fresh()
	a, _ := origin.Build(o)
	b, _ := origin.Build(o)
	want, _ := origin.Build(fresh())
	if !reflect.DeepEqual(o, fresh()) || !isRoomy(o.Areas, []byte{0xee}) || !isRoomy(o.Areas[0], 0xee) {
		t.Fatal("what was handed in has changed")
	}
	apart(t, b)
	if !sameLSPs(a, want) {
		t.Fatal("two answers share memory")
	}
	for i := range 2 {
		if !isRoomy(o.Edges[i], to(0xee, 1)) || !isRoomy(o.Reach[i], told("3.3.3.3/32", 3)) {
			t.Fatal("what was handed in has changed")
		}
	}
	spoil(&api.LSP{Areas: o.Areas, Edges: o.Edges, Reach: o.Reach})
	if !sameLSPs(a, want) {
		t.Fatal("an answer hangs on what was handed in")
	}
	// One list handed in at two places is told by two lists.
	area, list := []byte{1, 2}, edges(9)
	both, _ := origin.Build(origin.Own{Level: 1, Areas: [][]byte{area, area}, Edges: [2][]api.Edge{list, list}})
	apart(t, both)
}

func TestPlanMemory(t *testing.T) {
	have := roomy([]api.LSP{with(sample(1), 4, 5), with(sample(2), 6, 7)}, sample(9))
	shared := sample(1)
	shared.Host = "r2"
	second := shared
	second.ID = frag(3)
	want := roomy([]api.LSP{shared, second}, sample(8))
	a, gone, _ := origin.Plan(have, want)
	b, other, _ := origin.Plan(have, want)
	haveWas, wantWas := []api.LSP{with(sample(1), 4, 5), with(sample(2), 6, 7)}, []api.LSP{with(sample(1), 0, 0), with(sample(3), 0, 0)}
	wantWas[0].Host, wantWas[1].Host = "r2", "r2"
	if !reflect.DeepEqual(have, haveWas) || !reflect.DeepEqual(want, wantWas) || !isRoomy(have, sample(9)) || !isRoomy(want, sample(8)) {
		t.Fatal("what was handed in has changed")
	}
	apart(t, b)
	fill(b, api.LSP{})
	fill(other, api.LSPID{})
	spoil(&want[0])
	spoil(&want[1])
	spoil(&have[0])
	fill(have, api.LSP{})
	fill(want, api.LSP{})
	tell := []api.LSP{with(wantWas[0], 5, 1200), with(wantWas[1], 1, 1200)}
	if !sameLSPs(a, tell) || !slices.Equal(gone, []api.LSPID{frag(2)}) {
		t.Fatal("an answer hangs on what was handed in, or on another answer:", a, gone)
	}
}
