package rib_test

import (
	"math"
	"math/rand"
	"slices"
	"testing"

	"waymark/api"
	"waymark/prefix"
	"waymark/rib"
)

// notInForm: each of these is refused wherever a route is handed in.
var notInForm = []api.Prefix{
	{}, {Fam: 5}, {Fam: 255, Len: 8}, {Fam: 4, Len: -1}, {Fam: 4, Len: 33}, {Fam: 6, Len: -1}, {Fam: 6, Len: 129},
	{Fam: 4, Len: math.MaxInt}, {Fam: 6, Len: math.MinInt},
	{Fam: 4, Len: 8, Addr: [16]byte{10, 1}}, {Fam: 4, Len: 32, Addr: [16]byte{15: 1}}, {Fam: 6, Len: 127, Addr: [16]byte{15: 1}},
}

// pfx answers the prefix of which text is the text.
func pfx(text string) api.Prefix {
	p, e := prefix.Parse(text)
	if e != api.OK {
		panic(text)
	}
	return p
}

// hop answers a hop.
func hop(circuit, to int) api.Hop {
	return api.Hop{Circuit: circuit, To: api.SysID{5: byte(to)}}
}

// route answers a route.
func route(text string, kind int, metric uint32, hops ...api.Hop) api.Route {
	return api.Route{Prefix: pfx(text), Kind: kind, Metric: metric, Hops: hops}
}

// same tells whether two routes are the same, nil and empty hops too.
func same(a, b api.Route) bool {
	return a.Prefix == b.Prefix && a.Kind == b.Kind && a.Metric == b.Metric && slices.Equal(a.Hops, b.Hops)
}

// sameAll tells whether two lists of routes are the same.
func sameAll(a, b []api.Route) bool {
	return slices.EqualFunc(a, b, same)
}

// build answers a table of the routes.
func build(t *testing.T, routes ...api.Route) *rib.Table {
	t.Helper()
	x, e := rib.Build(routes)
	if x == nil || e != api.OK {
		t.Fatalf("Build(%v) = %v, %d", routes, x, e)
	}
	return x
}

// finds looks at what Find answers; nil: there is none.
func finds(t *testing.T, x *rib.Table, fam byte, addr [16]byte, want *api.Route) {
	t.Helper()
	r, ok, e := x.Find(fam, addr)
	if want == nil {
		want = &api.Route{}
		if ok {
			t.Errorf("Find(%d, %v) = %v", fam, addr, r)
		}
	} else if !ok {
		t.Errorf("Find(%d, %v): none; want %v", fam, addr, *want)
	}
	if !same(r, *want) || e != api.OK {
		t.Errorf("Find(%d, %v) = %v, %d; want %v", fam, addr, r, e, *want)
	}
}

// differs looks at what Diff answers.
func differs(t *testing.T, old, now []api.Route, gone []string, set ...api.Route) {
	t.Helper()
	var prefixes []api.Prefix
	for _, text := range gone {
		prefixes = append(prefixes, pfx(text))
	}
	a, b, e := rib.Diff(old, now)
	if !slices.Equal(a, prefixes) || !sameAll(b, set) || e != api.OK {
		t.Errorf("Diff(%v, %v) = %v, %v, %d; want %v, %v", old, now, a, b, e, gone, set)
	}
}

// The chapter's examples.

func TestExamples(t *testing.T) {
	all, some := route("::/0", api.RouteDefault, 1, hop(0, 1)), route("2001:db8::/32", api.RouteL1, 2, hop(1, 2))
	finds(t, build(t, all, some), 6, pfx("2001:db8::1/128").Addr, &some)
	p, q, r := "10.0.0.0/8", "11.0.0.0/8", "12.0.0.0/8"
	differs(t, []api.Route{route(p, 1, 5), route(q, 1, 6)}, []api.Route{route(p, 1, 7), route(r, 1, 8)}, []string{q}, route(p, 1, 7), route(r, 1, 8))
	if x, e := rib.Build([]api.Route{route(p, 1, 5), route(p, 1, 6)}); x != nil || e != api.ErrExists {
		t.Error(x, e)
	}
}

// P18.1

func TestBuildOfNothing(t *testing.T) {
	for _, routes := range [][]api.Route{nil, {}} {
		x := build(t, routes...)
		if list := x.List(); len(list) != 0 {
			t.Error(list)
		}
		finds(t, x, 4, [16]byte{}, nil)
		finds(t, x, 6, [16]byte{255}, nil)
	}
}

func TestFind(t *testing.T) {
	whole := route("0.0.0.0/0", api.RouteDefault, api.MaxPath, hop(3, 1))
	wide := route("10.0.0.0/8", api.RouteL2, 5, hop(0, 2), hop(1, 3))
	narrow := route("10.1.0.0/16", api.RouteLocal, 0)
	one := route("10.1.2.3/32", -7, math.MaxUint32, hop(-1, 9), hop(-1, 9), hop(-2, 1))
	six := route("a00::/8", api.RouteDown, 1, hop(9, 9))
	x := build(t, one, six, whole, narrow, wide)
	finds(t, x, 4, [16]byte{10, 1, 2, 3}, &one)
	finds(t, x, 4, [16]byte{10, 1, 2, 4}, &narrow)
	finds(t, x, 4, [16]byte{10, 2}, &wide)
	finds(t, x, 4, [16]byte{11}, &whole)
	finds(t, x, 6, [16]byte{10, 1, 2, 3}, &six)
	finds(t, x, 6, [16]byte{11}, nil)
	// Of IPv4 the first four bytes count.
	finds(t, x, 4, [16]byte{10, 1, 2, 3, 4, 15: 255}, &one)
	finds(t, build(t, wide, narrow), 4, [16]byte{11}, nil)
	finds(t, build(t, wide, narrow), 6, [16]byte{10, 1}, nil)
}

func TestFindErrors(t *testing.T) {
	x := build(t, route("0.0.0.0/0", 0, 0), route("::/0", 0, 0))
	var none *rib.Table
	for fam := range 256 {
		want, ofNone := api.ErrArg, api.ErrArg
		if fam == 4 || fam == 6 {
			want, ofNone = api.OK, api.ErrNone
		}
		r, ok, e := x.Find(byte(fam), [16]byte{10})
		if ok != (want == api.OK) || e != want || !ok && !same(r, api.Route{}) {
			t.Errorf("Find(%d) = %v, %v, %d", fam, r, ok, e)
		}
		if r, ok, e := none.Find(byte(fam), [16]byte{10}); !same(r, api.Route{}) || ok || e != ofNone {
			t.Errorf("Find(%d) of nil = %v, %v, %d", fam, r, ok, e)
		}
	}
	if list := none.List(); len(list) != 0 {
		t.Error(list)
	}
}

func TestListOrder(t *testing.T) {
	var want []api.Route
	for i, text := range []string{"0.0.0.0/0", "9.0.0.0/8", "10.0.0.0/8", "10.0.0.0/9", "10.0.0.0/32", "10.128.0.0/9", "::/0", "::/128", "a00::/8", "2001:db8::/32"} {
		want = append(want, route(text, i%5, uint32(99-i), hop(9-i, i), hop(i, i)))
	}
	r := rand.New(rand.NewSource(1))
	for range 100 {
		routes := slices.Clone(want)
		r.Shuffle(len(routes), func(i, k int) { routes[i], routes[k] = routes[k], routes[i] })
		x := build(t, routes...)
		if list := x.List(); !sameAll(list, want) {
			t.Fatalf("List() = %v; want %v", list, want)
		}
		for _, one := range routes {
			if r, ok, e := x.Find(one.Prefix.Fam, one.Prefix.Addr); !ok || e != api.OK || r.Prefix.Len < one.Prefix.Len {
				t.Fatal(one, r, ok, e)
			}
		}
	}
}

func TestBuildErrors(t *testing.T) {
	right, other := route("10.0.0.0/8", 1, 1), route("::/0", 1, 1)
	for _, p := range notInForm {
		bad := api.Route{Prefix: p}
		for _, routes := range [][]api.Route{{bad}, {right, bad}, {bad, right}, {right, right, bad}, {bad, right, right}, {bad, bad}} {
			if x, e := rib.Build(routes); x != nil || e != api.ErrForm {
				t.Errorf("Build(%v) = %v, %d", routes, x, e)
			}
		}
	}
	again := route("10.0.0.0/8", 2, 9, hop(1, 1))
	for _, routes := range [][]api.Route{{right, right}, {right, again}, {again, other, right}, {other, right, again}, {right, right, right}} {
		if x, e := rib.Build(routes); x != nil || e != api.ErrExists {
			t.Errorf("Build(%v) = %v, %d", routes, x, e)
		}
	}
	// Equal bits, but another length or another family, are another prefix.
	build(t, right, route("10.0.0.0/9", 1, 1), route("a00::/8", 1, 1), other, route("0.0.0.0/0", 1, 1))
}

// P18.2

func TestDiffOfNothing(t *testing.T) {
	one := []api.Route{route("10.0.0.0/8", 1, 5, hop(0, 2))}
	differs(t, nil, nil, nil)
	differs(t, []api.Route{}, nil, nil)
	differs(t, nil, one, nil, one...)
	differs(t, one, nil, []string{"10.0.0.0/8"})
	differs(t, one, one, nil)
}

// What of a route may be another.
func TestDiffOfOneRoute(t *testing.T) {
	p := "10.0.0.0/8"
	was := route(p, 2, 5, hop(0, 2), hop(1, 3))
	for _, is := range []api.Route{
		route(p, 1, 5, hop(0, 2), hop(1, 3)),
		route(p, 3, 5, hop(0, 2), hop(1, 3)),
		route(p, 2, 4, hop(0, 2), hop(1, 3)),
		route(p, 2, 6, hop(0, 2), hop(1, 3)),
		route(p, 2, 5),
		route(p, 2, 5, hop(0, 2)),
		route(p, 2, 5, hop(1, 3)),
		route(p, 2, 5, hop(1, 3), hop(0, 2)),
		route(p, 2, 5, hop(0, 2), hop(1, 3), hop(1, 3)),
		route(p, 2, 5, hop(0, 2), hop(1, 3), hop(2, 3)),
		route(p, 2, 5, hop(0, 2), hop(2, 3)),
		route(p, 2, 5, hop(0, 2), hop(1, 4)),
		route(p, 2, 5, hop(3, 2), hop(1, 3)),
	} {
		differs(t, []api.Route{was}, []api.Route{is}, nil, is)
		differs(t, []api.Route{is}, []api.Route{was}, nil, was)
		differs(t, []api.Route{is}, []api.Route{is}, nil)
	}
	// Another length, or another family, is another prefix.
	differs(t, []api.Route{was}, []api.Route{route("10.0.0.0/9", 2, 5, hop(0, 2), hop(1, 3))}, []string{p}, route("10.0.0.0/9", 2, 5, hop(0, 2), hop(1, 3)))
	differs(t, []api.Route{was}, []api.Route{route("a00::/8", 2, 5, hop(0, 2), hop(1, 3))}, []string{p}, route("a00::/8", 2, 5, hop(0, 2), hop(1, 3)))
	// No hops are no hops, nil or not.
	none := route(p, 0, 0)
	empty := none
	empty.Hops = []api.Hop{}
	differs(t, []api.Route{none}, []api.Route{empty}, nil)
	differs(t, []api.Route{empty}, []api.Route{none}, nil)
}

func TestDiffOrder(t *testing.T) {
	texts := []string{"0.0.0.0/0", "9.0.0.0/8", "10.0.0.0/8", "10.0.0.0/9", "10.0.0.0/32", "10.128.0.0/9", "::/0", "::/128", "a00::/8", "2001:db8::/32"}
	r := rand.New(rand.NewSource(2))
	for range 500 {
		var old, now, set []api.Route
		var gone []string
		for i, text := range texts {
			was, is := route(text, 1, uint32(i), hop(i, 1)), route(text, 1, uint32(i), hop(i, 2))
			switch r.Intn(4) {
			case 0:
				old, gone = append(old, was), append(gone, text)
			case 1:
				now, set = append(now, is), append(set, is)
			case 2:
				old, now, set = append(old, was), append(now, is), append(set, is)
			case 3:
				old, now = append(old, was), append(now, was)
			}
		}
		for _, list := range [][]api.Route{old, now} {
			r.Shuffle(len(list), func(i, k int) { list[i], list[k] = list[k], list[i] })
		}
		differs(t, old, now, gone, set...)
	}
}

func TestDiffErrors(t *testing.T) {
	right, again := route("10.0.0.0/8", 1, 1), route("10.0.0.0/8", 2, 2)
	refused := func(old, now []api.Route, want api.Errno) {
		t.Helper()
		if gone, set, e := rib.Diff(old, now); len(gone) != 0 || len(set) != 0 || e != want {
			t.Errorf("Diff(%v, %v) = %v, %v, %d; want %d", old, now, gone, set, e, want)
		}
	}
	fine, twice := []api.Route{right}, []api.Route{right, route("::/0", 1, 1), again}
	for _, other := range [][]api.Route{nil, fine, {again}, twice} {
		refused(twice, other, api.ErrExists)
		refused(other, twice, api.ErrExists)
	}
	for _, p := range notInForm {
		for _, bad := range [][]api.Route{{{Prefix: p}}, {right, {Prefix: p}}, {{Prefix: p}, right, right}} {
			for _, other := range [][]api.Route{nil, fine, twice, bad} {
				refused(bad, other, api.ErrForm)
				refused(other, bad, api.ErrForm)
			}
		}
	}
	// One route may stand in both lists.
	differs(t, fine, []api.Route{again}, nil, again)
}

// What holds everywhere: what is handed in is not changed and not kept, what is answered is new.

// spoil writes over all of a list, its spare room too.
func spoil[T any](list []T, one T) {
	list = list[:cap(list)]
	for i := range list {
		list[i] = one
	}
}

// spoilAll writes over routes and over their hops.
func spoilAll(routes []api.Route) {
	for _, r := range routes {
		spoil(r.Hops, hop(77, 77))
	}
	spoil(routes, api.Route{Kind: 77})
}

// roomy answers a list again, with spare room behind it that is marked.
func roomy[T any](list []T, mark T) []T {
	return append(slices.Clone(list), mark, mark)[:len(list)]
}

// handed answers routes that share hops, with spare room; with what stands there.
func handed() (routes, whole []api.Route) {
	hops := roomy([]api.Hop{hop(1, 2), hop(3, 4)}, hop(99, 99))
	routes = roomy([]api.Route{
		{Prefix: pfx("11.0.0.0/8"), Hops: hops},
		{Prefix: pfx("10.0.0.0/8"), Hops: hops},
		{Prefix: pfx("9.0.0.0/8"), Hops: hops[:0]},
	}, api.Route{Kind: 99})
	for _, r := range routes {
		r.Hops = r.Hops[:4]
		whole = append(whole, r)
	}
	return routes, append(whole, routes[3:5]...)
}

// inOrder answers what handed answers, in order.
func inOrder() []api.Route {
	return []api.Route{route("9.0.0.0/8", 0, 0), route("10.0.0.0/8", 0, 0, hop(1, 2), hop(3, 4)), route("11.0.0.0/8", 0, 0, hop(1, 2), hop(3, 4))}
}

// ownHops looks at whether the hops of each route are its own, spare room too; they are written over.
func ownHops(t *testing.T, routes []api.Route) {
	t.Helper()
	for i, r := range routes {
		later := routes[i+1:]
		var copies []api.Route
		for _, l := range later {
			l.Hops = slices.Clone(l.Hops)
			copies = append(copies, l)
		}
		spoil(r.Hops, hop(77, 77))
		if !sameAll(later, copies) {
			t.Fatalf("the hops of %d are another's, too", i)
		}
	}
}

// unchanged looks at whether what was handed in is as it was.
func unchanged(t *testing.T, whole []api.Route) {
	t.Helper()
	if _, want := handed(); !sameAll(whole, want) {
		t.Fatal("what was handed in has changed")
	}
}

func TestTableMemory(t *testing.T) {
	routes, whole := handed()
	x := build(t, routes...)
	unchanged(t, whole)
	first, _, _ := x.Find(4, [16]byte{10})
	list, again := x.List(), x.List()
	ownHops(t, list)
	spoilAll(list)
	spoil(first.Hops, hop(77, 77))
	unchanged(t, whole)
	spoilAll(whole)
	if !sameAll(again, inOrder()) || !sameAll(x.List(), inOrder()) {
		t.Fatal("the table hangs on what was handed in, or on its answers")
	}
	want := inOrder()[1]
	finds(t, x, 4, [16]byte{10}, &want)
}

func TestDiffMemory(t *testing.T) {
	old, wholeOld := handed()
	now, wholeNow := handed()
	_, a, e := rib.Diff(nil, now)
	_, b, f := rib.Diff(nil, now)
	gone, _, g := rib.Diff(old, nil)
	if e != api.OK || f != api.OK || g != api.OK || len(gone) != 3 {
		t.Fatal(e, f, g, gone)
	}
	unchanged(t, wholeOld)
	unchanged(t, wholeNow)
	ownHops(t, a)
	spoilAll(a)
	spoil(gone, api.Prefix{})
	unchanged(t, wholeOld)
	unchanged(t, wholeNow)
	spoilAll(wholeNow)
	if !sameAll(b, inOrder()) {
		t.Fatal("an answer hangs on what was handed in, or on another answer")
	}
}

// The model: the chapter's words, by going through all routes.

// modelFind answers the place of the route to the longest prefix that covers the address; -1: there is none.
func modelFind(routes []api.Route, fam byte, addr [16]byte) int {
	best := -1
	bits := map[byte]int{4: 32, 6: 128}[fam]
	for i, r := range routes {
		one, _ := prefix.Cut(api.Prefix{Fam: fam, Len: bits, Addr: addr}, bits)
		if covers, _ := prefix.Covers(r.Prefix, one); covers && (best < 0 || r.Prefix.Len > routes[best].Prefix.Len) {
			best = i
		}
	}
	return best
}

// someRoutes answers routes, each to another one of few prefixes.
func someRoutes(r *rand.Rand) []api.Route {
	var list []api.Route
	known := map[api.Prefix]struct{}{}
	for range r.Intn(12) {
		p := api.Prefix{Fam: []byte{4, 6}[r.Intn(2)], Len: 20, Addr: [16]byte{byte(r.Intn(4) << 6), byte(r.Intn(2) << 7)}}
		p, _ = prefix.Cut(p, r.Intn(12))
		if _, there := known[p]; there {
			continue
		}
		known[p] = struct{}{}
		one := api.Route{Prefix: p, Kind: r.Intn(2), Metric: uint32(r.Intn(2))}
		for range r.Intn(2) {
			one.Hops = append(one.Hops, hop(r.Intn(2), 1))
		}
		list = append(list, one)
	}
	return list
}

func TestAgainstModel(t *testing.T) {
	for seed := range 3000 {
		r := rand.New(rand.NewSource(int64(seed)))
		old, now := someRoutes(r), someRoutes(r)
		x := build(t, now...)
		for range 20 {
			fam := []byte{4, 6}[r.Intn(2)]
			addr := [16]byte{byte(r.Intn(256)), byte(r.Intn(256)), 15: byte(r.Intn(256))}
			var want *api.Route
			if i := modelFind(now, fam, addr); i >= 0 {
				want = &now[i]
			}
			finds(t, x, fam, addr, want)
		}
		var gone []string
		for _, was := range build(t, old...).List() {
			if !slices.ContainsFunc(now, func(is api.Route) bool { return is.Prefix == was.Prefix }) {
				text, _ := prefix.Write(was.Prefix)
				gone = append(gone, text)
			}
		}
		var set []api.Route
		for _, is := range x.List() {
			if !slices.ContainsFunc(old, func(was api.Route) bool { return same(is, was) }) {
				set = append(set, is)
			}
		}
		differs(t, old, now, gone, set...)
		if t.Failed() {
			t.Fatal("seed", seed)
		}
	}
}

func TestMuch(t *testing.T) {
	const count = 50000
	var routes []api.Route
	for i := range count {
		p := api.Prefix{Fam: 6, Len: 128, Addr: [16]byte{byte(i >> 8), byte(i)}}
		routes = append(routes, api.Route{Prefix: p, Metric: uint32(i)})
	}
	x := build(t, routes...)
	if !sameAll(x.List(), routes) {
		t.Fatal("not in order")
	}
	turned := slices.Clone(routes)
	slices.Reverse(turned)
	differs(t, routes, turned, nil)
	turned[0].Metric = 1
	differs(t, routes, turned, nil, turned[0])
}
