package inter_test

import (
	"math"
	"math/rand"
	"slices"
	"testing"

	"waymark/api"
	"waymark/inter"
)

// merges looks at what Merge answers of lists, whichever way round they stand.
func merges(t *testing.T, lists [][]api.Route, want ...api.Route) {
	t.Helper()
	turned := slices.Clone(lists)
	slices.Reverse(turned)
	for _, l := range [][][]api.Route{lists, turned} {
		if got, e := inter.Merge(l...); !sameRoutes(got, want) || e != api.OK {
			t.Errorf("Merge(%v) = %v, %d; want %v", l, got, e, want)
		}
	}
}

// alone answers lists of one route each.
func alone(routes ...api.Route) [][]api.Route {
	var lists [][]api.Route
	for _, r := range routes {
		lists = append(lists, []api.Route{r})
	}
	return lists
}

// P16.3

func TestMergeExamples(t *testing.T) {
	p := "10.0.0.0/8"
	merges(t, alone(route(p, api.RouteL2, 5, hop(0, 2)), route(p, api.RouteL1, 50, hop(1, 3))), route(p, api.RouteL1, 50, hop(1, 3)))
	merges(t, alone(route(p, api.RouteL2, 5, hop(1, 3)), route(p, api.RouteL2, 5, hop(0, 2))), route(p, api.RouteL2, 5, hop(0, 2), hop(1, 3)))
}

func TestMergeNothing(t *testing.T) {
	merges(t, nil)
	merges(t, [][]api.Route{nil})
	merges(t, [][]api.Route{nil, {}, nil})
	one := route("10.0.0.0/8", api.RouteLocal, 0)
	merges(t, [][]api.Route{nil, {one}, {}}, one)
}

// The lesser Kind ahead of the lesser Metric; any numbers stand there.
func TestMergeBetter(t *testing.T) {
	p := "10.0.0.0/8"
	kinds := []int{math.MinInt, -1, api.RouteLocal, api.RouteL1, api.RouteL2, api.RouteDown, api.RouteDefault, 5, math.MaxInt}
	metrics := []uint32{0, 1, 50, api.MaxLink, api.MaxPath - 1, api.MaxPath, math.MaxUint32}
	for i, kind := range kinds {
		for k, metric := range metrics {
			worse := []api.Route{route(p, kind, metric, hop(1, 1))}
			if i+1 < len(kinds) {
				worse = append(worse, route(p, kinds[i+1], 0, hop(2, 2)), route(p, kinds[len(kinds)-1], metric, hop(3, 3)))
			}
			if k+1 < len(metrics) {
				worse = append(worse, route(p, kind, metrics[k+1], hop(4, 4)))
			}
			merges(t, alone(worse...), worse[0])
			merges(t, [][]api.Route{worse}, worse[0])
		}
	}
}

// Each prefix has one route; they stand in the prefixes' order, in whichever lists they stood.
func TestMergeOrder(t *testing.T) {
	var want []api.Route
	for i, text := range []string{"0.0.0.0/0", "9.0.0.0/8", "10.0.0.0/8", "10.0.0.0/9", "10.0.0.0/32", "10.128.0.0/9", "::/0", "::/128", "a00::/8", "2001:db8::/32"} {
		want = append(want, route(text, i%5, uint32(9-i), hop(i, i)))
	}
	r := rand.New(rand.NewSource(1))
	for range 50 {
		list := slices.Clone(want)
		r.Shuffle(len(list), func(i, k int) { list[i], list[k] = list[k], list[i] })
		merges(t, alone(list...), want...)
		merges(t, [][]api.Route{list[:3], list[3:], list[2:5]}, want...)
		merges(t, [][]api.Route{list}, want...)
	}
}

// Equal ones are one, with all hops in order, each once.
func TestMergeHops(t *testing.T) {
	p := "::/0"
	a := route(p, 2, 5, hop(1, 3), hop(4, 1))
	b := route(p, 2, 5, hop(0, 9), hop(1, 2), hop(4, 1))
	c := route(p, 2, 5, hop(-1, 3), hop(1, 300))
	d := route(p, 2, 5)
	merges(t, alone(a, b), route(p, 2, 5, hop(0, 9), hop(1, 2), hop(1, 3), hop(4, 1)))
	merges(t, alone(a, b, c, d), route(p, 2, 5, hop(-1, 3), hop(0, 9), hop(1, 2), hop(1, 3), hop(1, 300), hop(4, 1)))
	merges(t, [][]api.Route{{a, d}, {a}, {a, a}}, a)
	merges(t, alone(d, d), d)
	merges(t, alone(d, a), a)
	// The hops of worse ones aren't there, come they early or late.
	merges(t, alone(route(p, 2, 6, hop(7, 7)), a, route(p, 2, 6, hop(8, 8)), d, route(p, 3, 0, hop(9, 9))), a)
}

// A route that is alone, or the only best one, is answered as it is.
func TestMergeAlone(t *testing.T) {
	one := route("10.0.0.0/8", 1, 5, hop(3, 1), hop(1, 2), hop(1, 2))
	merges(t, alone(one), one)
	merges(t, alone(route("10.0.0.0/8", 2, 5, hop(0, 1)), one, route("10.0.0.0/8", 1, 6)), one)
}

func TestMergeErrors(t *testing.T) {
	right := route("10.0.0.0/8", api.RouteL1, 1, hop(0, 2))
	for _, p := range notInForm {
		bad := api.Route{Prefix: p, Kind: api.RouteDefault}
		for _, lists := range [][][]api.Route{{{bad}}, {{right, bad}}, {{bad, right}}, {{right}, nil, {bad}}, {{bad}, {right}}} {
			if got, e := inter.Merge(lists...); len(got) != 0 || e != api.ErrForm {
				t.Errorf("Merge(%v) = %v, %d", lists, got, e)
			}
		}
	}
}

func TestMergeAgainstModel(t *testing.T) {
	for seed := range 3000 {
		r := rand.New(rand.NewSource(int64(seed)))
		var lists [][]api.Route
		var want []api.Route
		for range r.Intn(5) {
			var list []api.Route
			for range r.Intn(8) {
				texts := []string{"0.0.0.0/0", "10.0.0.0/8", "::/0", "a00::/8"}
				one := route(texts[r.Intn(4)], r.Intn(3), uint32(r.Intn(3)))
				for range r.Intn(4) {
					one.Hops = modelAdd(one.Hops, hop(r.Intn(4), r.Intn(4)))
				}
				list = append(list, one)
				want = modelBetter(want, one)
			}
			lists = append(lists, list)
		}
		if got, e := inter.Merge(lists...); !sameRoutes(got, want) || e != api.OK {
			t.Fatalf("seed %d: Merge(%v) = %v, %d; want %v", seed, lists, got, e, want)
		}
	}
}

// Much that is equal, and much that isn't.
func TestMergeMuch(t *testing.T) {
	const count = 50000
	var equal, unlike []api.Route
	for i := range count {
		equal = append(equal, route("::/0", 1, 1, hop(count-i, 1)))
		p := api.Prefix{Fam: 6, Len: 128, Addr: [16]byte{byte(i >> 8), byte(i)}}
		unlike = append(unlike, api.Route{Prefix: p, Metric: uint32(i)})
	}
	got, e := inter.Merge(equal, unlike, equal)
	if e != api.OK || len(got) != count+1 || len(got[0].Hops) != count || got[0].Hops[0] != hop(1, 1) || !sameRoutes(got[1:], unlike) {
		t.Fatal(len(got), e)
	}
}

func TestMergeMemory(t *testing.T) {
	fresh := func() [][]api.Route {
		hops := roomy([]api.Hop{hop(1, 2), hop(3, 4)}, hop(99, 99))
		a := api.Route{Prefix: pfx("10.0.0.0/8"), Hops: hops}
		b := api.Route{Prefix: pfx("9.0.0.0/8"), Hops: hops}
		c := api.Route{Prefix: pfx("8.0.0.0/8"), Hops: hops[:0]}
		return roomy([][]api.Route{roomy([]api.Route{a, b}, a), roomy([]api.Route{b, c}, b)}, nil)
	}
	whole := func(lists [][]api.Route) []api.Route {
		var all []api.Route
		for _, list := range lists {
			for _, r := range room(list) {
				r.Hops = r.Hops[:4]
				all = append(all, r)
			}
		}
		return all
	}
	lists := fresh()
	want := []api.Route{route("8.0.0.0/8", 0, 0), route("9.0.0.0/8", 0, 0, hop(1, 2), hop(3, 4)), route("10.0.0.0/8", 0, 0, hop(1, 2), hop(3, 4))}
	a, _ := inter.Merge(lists...)
	b, _ := inter.Merge(lists...)
	if !sameRoutes(whole(lists), whole(fresh())) || !sameRoutes(b, want) {
		t.Fatal("what was handed in has changed")
	}
	ownHops(t, b)
	spoil(b, api.Route{})
	if !sameRoutes(whole(lists), whole(fresh())) {
		t.Fatal("an answer shares memory with what was handed in")
	}
	for _, list := range lists {
		for _, r := range list {
			spoil(r.Hops, api.Hop{})
		}
		spoil(list, api.Route{})
	}
	if !sameRoutes(a, want) {
		t.Fatalf("an answer hangs on what was handed in, or on another answer: %v", a)
	}
}

// each answers a route of each Kind, and of Kinds that there aren't, with prefixes within 10.0.0.0/8.
func each() []api.Route {
	return []api.Route{
		route("10.2.0.0/16", api.RouteL2, 20, hop(0, 2)), route("10.1.0.0/16", api.RouteL1, 10, hop(0, 2)), route("10.3.0.0/16", api.RouteDown, 30),
		route("10.0.0.0/16", api.RouteLocal, 0), route("10.4.0.0/16", api.RouteDefault, 40), route("10.5.0.0/16", 5, 50), route("10.6.0.0/16", -1, 60),
		route("10.1.0.0/24", api.RouteL1, api.MaxPath), route("10.0.0.0/24", api.RouteL2, math.MaxUint32), route("10.1.0.0/16", api.RouteLocal, 11),
	}
}

func TestUp(t *testing.T) {
	for _, c := range []struct {
		routes []api.Route
		want   []api.Reach
	}{
		{nil, nil},
		{[]api.Route{}, nil},
		{each(), []api.Reach{thing("10.1.0.0/16", 10), thing("10.0.0.0/16", 0), thing("10.1.0.0/24", api.MaxPath), thing("10.1.0.0/16", 11)}},
		{[]api.Route{route("::/0", api.RouteL1, 7), route("0.0.0.0/0", api.RouteLocal, 3)}, []api.Reach{thing("::/0", 7), thing("0.0.0.0/0", 3)}},
		{[]api.Route{route("::/0", api.RouteDown, 7)}, nil},
	} {
		if got, e := inter.Up(c.routes); !slices.Equal(got, c.want) || e != api.OK {
			t.Errorf("Up(%v) = %v, %d; want %v", c.routes, got, e, c.want)
		}
	}
}

func TestDown(t *testing.T) {
	two := down("10.2.0.0/16", 20)
	more := down("10.0.0.0/24", math.MaxUint32)
	for _, c := range []struct {
		leak []string
		want []api.Reach
	}{
		{nil, nil},
		{[]string{"0.0.0.0/0"}, []api.Reach{two, more}},
		{[]string{"10.0.0.0/8"}, []api.Reach{two, more}},
		{[]string{"10.0.0.0/8", "10.0.0.0/8", "0.0.0.0/0"}, []api.Reach{two, more}}, // each is told once
		{[]string{"10.2.0.0/16"}, []api.Reach{two}},
		{[]string{"10.2.0.0/15"}, []api.Reach{two}},
		{[]string{"10.2.0.0/17"}, nil},
		{[]string{"11.0.0.0/8", "10.0.0.0/24"}, []api.Reach{more}},
		{[]string{"10.0.0.0/24", "10.2.0.0/16"}, []api.Reach{two, more}},
		{[]string{"10.0.0.0/25", "10.0.0.0/32", "11.0.0.0/8"}, nil},
		{[]string{"::/0"}, nil}, // another family
		{[]string{"::/0", "a02::/16"}, nil},
	} {
		var leak []api.Prefix
		for _, text := range c.leak {
			leak = append(leak, pfx(text))
		}
		if got, e := inter.Down(each(), leak); !slices.Equal(got, c.want) || e != api.OK {
			t.Errorf("Down by %v = %v, %d; want %v", c.leak, got, e, c.want)
		}
	}
	six := []api.Route{route("2001:db8::/32", api.RouteL2, 1), route("2001:db9::/32", api.RouteL2, 2), route("2001:db8::/32", api.RouteL2, 3)}
	want := []api.Reach{down("2001:db8::/32", 1), down("2001:db8::/32", 3)}
	if got, e := inter.Down(six, []api.Prefix{pfx("2001:db8::/32"), pfx("0.0.0.0/0")}); !slices.Equal(got, want) || e != api.OK {
		t.Errorf("Down of IPv6 = %v, %d; want %v", got, e, want)
	}
	if got, e := inter.Down(nil, []api.Prefix{pfx("::/0")}); len(got) != 0 || e != api.OK {
		t.Errorf("Down of nothing = %v, %d", got, e)
	}
}

func TestUpAndDownErrors(t *testing.T) {
	all := pfx("0.0.0.0/0")
	downFails := func(routes []api.Route, leak []api.Prefix, want api.Errno) {
		t.Helper()
		if got, e := inter.Down(routes, leak); len(got) != 0 || e != want {
			t.Errorf("Down(%v, %d prefixes) = %v, %d; want %d", routes, len(leak), got, e, want)
		}
	}
	for _, p := range notInForm {
		// Of whatever Kind the route is, behind others and ahead of them.
		for kind := -1; kind <= 5; kind++ {
			bad := api.Route{Prefix: p, Kind: kind}
			for _, routes := range [][]api.Route{{bad}, append(each(), bad), append([]api.Route{bad}, each()...)} {
				if got, e := inter.Up(routes); len(got) != 0 || e != api.ErrForm {
					t.Errorf("Up(%v) = %v, %d", routes, got, e)
				}
				downFails(routes, []api.Prefix{all}, api.ErrForm)
				downFails(routes, nil, api.ErrForm)
			}
		}
		downFails(each(), []api.Prefix{p}, api.ErrForm)
		downFails(each(), []api.Prefix{all, p}, api.ErrForm)
		downFails(nil, []api.Prefix{p, all}, api.ErrForm)
		downFails(nil, slices.Repeat([]api.Prefix{p}, 64), api.ErrForm)
		downFails(nil, slices.Repeat([]api.Prefix{p}, 65), api.ErrLong)
		downFails([]api.Route{{Prefix: p}}, slices.Repeat([]api.Prefix{all}, 65), api.ErrLong)
	}
	downFails(each(), slices.Repeat([]api.Prefix{all}, 65), api.ErrLong)
	if got, e := inter.Down(each(), slices.Repeat([]api.Prefix{all}, 64)); len(got) != 2 || e != api.OK {
		t.Error(got, e)
	}
	// It is told by the last of as many as there may be.
	leak := append(slices.Repeat([]api.Prefix{pfx("11.0.0.0/8")}, 63), all)
	if got, e := inter.Down(each(), leak); len(got) != 2 || e != api.OK {
		t.Error(got, e)
	}
}

func TestUpAndDownMemory(t *testing.T) {
	routes := roomy(each(), api.Route{Kind: 9})
	leak := roomy([]api.Prefix{pfx("10.0.0.0/8")}, api.Prefix{Fam: 9})
	up, _ := inter.Up(routes)
	low, _ := inter.Down(routes, leak)
	wantUp, wantLow := slices.Clone(up), slices.Clone(low)
	for range 2 {
		up, _ := inter.Up(routes)
		low, _ := inter.Down(routes, leak)
		spoil(up, api.Reach{})
		spoil(low, api.Reach{})
	}
	if !sameRoutes(routes, each()) || room(routes)[len(routes)].Kind != 9 || room(leak)[1].Fam != 9 || leak[0] != pfx("10.0.0.0/8") {
		t.Fatal("what was handed in has changed")
	}
	spoil(routes, api.Route{})
	spoil(leak, api.Prefix{})
	if !slices.Equal(up, wantUp) || !slices.Equal(low, wantLow) {
		t.Fatal("an answer hangs on what was handed in, or on another answer")
	}
}
