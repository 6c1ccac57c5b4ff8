package adj_test

import (
	"bytes"
	"fmt"
	"math"
	"math/rand"
	"reflect"
	"slices"
	"testing"

	"waymark/adj"
	"waymark/api"
)

var (
	nameA = api.SysID{0, 0, 0, 0, 0, 0xa}
	nameB = api.SysID{0, 0, 0, 0, 0, 0xb}
	nameC = api.SysID{0, 0, 0, 0, 0, 0xc}
	area1 = []byte{0x49, 1}
	area2 = []byte{0x49, 2}
	area3 = []byte{0x49, 1, 0}
)

// sideA and sideB are at both ends of one circuit.
func sideA() adj.Local {
	return adj.Local{Sys: nameA, Number: 4, Level: api.Both, Areas: [][]byte{area1}}
}

func sideB() adj.Local {
	return adj.Local{Sys: nameB, Number: 5, Level: api.Both, Areas: [][]byte{area1}}
}

// ofB is what A knows of B in that state.
func ofB(state int) adj.Adjacency {
	if state == api.Down {
		return adj.Adjacency{State: api.Down}
	}
	return adj.Adjacency{State: state, Peer: nameB, Number: 5, Level: api.Both, Until: 77}
}

// fromB is a hello of B that tells this state, and names A or nobody.
func fromB(state int, named bool) adj.Hello {
	h := adj.Hello{Sys: nameB, Number: 5, Level: api.Both, Hold: 10, Areas: [][]byte{area1}, State: state, Named: named}
	if named {
		h.Their, h.There = nameA, 4
	}
	return h
}

// step looks at what A's adjacency becomes.
func step(t *testing.T, l adj.Local, a adj.Adjacency, h adj.Hello, now int64, want adj.Adjacency, e api.Errno) {
	t.Helper()
	if got, f := adj.Step(l, a, h, now); got != want || f != e {
		t.Errorf("Step(%v, %v, %v, %d) = %v, %d; want %v, %d", l, a, h, now, got, f, want, e)
	}
}

// in answers what A knows of B from now on.
func in(state int, until int64) adj.Adjacency {
	a := ofB(state)
	if state != api.Down {
		a.Until = until
	}
	return a
}

// P10.1

func TestStates(t *testing.T) {
	for _, c := range []struct{ is, told, want int }{
		{api.Down, api.Down, api.Init}, {api.Down, api.Init, api.Up}, {api.Down, api.Up, api.Down},
		{api.Init, api.Down, api.Init}, {api.Init, api.Init, api.Up}, {api.Init, api.Up, api.Up},
		{api.Up, api.Down, api.Init}, {api.Up, api.Init, api.Up}, {api.Up, api.Up, api.Up},
	} {
		step(t, sideA(), ofB(c.is), fromB(c.told, true), 100, in(c.want, 110), api.OK)
	}
}

// Who names nobody tells Down, whichever state the hello has, and whatever stands behind it.
func TestStatesNotNamed(t *testing.T) {
	for is := range 3 {
		for told := range 3 {
			h := fromB(told, false)
			step(t, sideA(), ofB(is), h, 0, in(api.Init, 10), api.OK)
			h.Their, h.There = nameC, 9
			step(t, sideA(), ofB(is), h, 0, in(api.Init, 10), api.OK)
		}
	}
}

// Who names another router, or another circuit, changes nothing, not even the time.
func TestNamesAnother(t *testing.T) {
	odd := adj.Adjacency{State: api.Up, Peer: nameC, Number: 1, Level: api.L2, Until: 3}
	for _, a := range []adj.Adjacency{ofB(api.Up), ofB(api.Init), ofB(api.Down), odd} {
		for told := range 3 {
			h := fromB(told, true)
			h.Their = nameC
			step(t, sideA(), a, h, 1000, a, api.OK)
			h.Their, h.There = nameA, 5
			step(t, sideA(), a, h, 1000, a, api.OK)
			h.Their, h.There = nameB, 5
			step(t, sideA(), a, h, 1000, a, api.OK)
			h.Their, h.There = api.SysID{}, 0
			step(t, sideA(), a, h, 1000, a, api.OK)
		}
	}
}

// Another name, another number, other levels: as if the adjacency were Down.
func TestOtherSide(t *testing.T) {
	for _, turn := range []func(*adj.Adjacency){
		func(a *adj.Adjacency) { a.Peer = nameC },
		func(a *adj.Adjacency) { a.Peer = nameA },
		func(a *adj.Adjacency) { a.Number = 6 },
		func(a *adj.Adjacency) { a.Level = api.L1 },
		func(a *adj.Adjacency) { a.Level = api.L2 },
		func(a *adj.Adjacency) { a.Level = 0 },
		func(a *adj.Adjacency) { a.Level = 7 },
	} {
		for _, state := range []int{api.Init, api.Up} {
			a := ofB(state)
			turn(&a)
			step(t, sideA(), a, fromB(api.Down, true), 5, in(api.Init, 15), api.OK)
			step(t, sideA(), a, fromB(api.Init, true), 5, in(api.Up, 15), api.OK)
			step(t, sideA(), a, fromB(api.Up, true), 5, in(api.Down, 0), api.OK)
			step(t, sideA(), a, fromB(api.Up, false), 5, in(api.Init, 15), api.OK)
		}
	}
	// Of one that is Down nothing else counts, and nothing else is answered.
	odd := adj.Adjacency{State: api.Down, Peer: nameC, Number: 9, Level: 1, Until: 3}
	step(t, sideA(), odd, fromB(api.Up, true), 5, in(api.Down, 0), api.OK)
	step(t, sideA(), odd, fromB(api.Init, true), 5, in(api.Up, 15), api.OK)
}

func TestLevels(t *testing.T) {
	one, two := [][]byte{area1}, [][]byte{area2}
	for _, c := range []struct {
		ours, theirs int
		of           [][]byte
		want         int
	}{
		{1, 1, one, 1}, {1, 2, one, 0}, {1, 3, one, 1}, {2, 1, one, 0}, {2, 2, one, 2}, {2, 3, one, 2}, {3, 1, one, 1}, {3, 2, one, 2}, {3, 3, one, 3},
		{1, 1, two, 0}, {1, 2, two, 0}, {1, 3, two, 0}, {2, 1, two, 0}, {2, 2, two, 2}, {2, 3, two, 2}, {3, 1, two, 0}, {3, 2, two, 2}, {3, 3, two, 2},
	} {
		for is := range 3 {
			l, h, a := sideA(), fromB(api.Init, true), ofB(is)
			l.Level, h.Level, h.Areas = c.ours, c.theirs, c.of
			want, e := in(api.Up, 12), api.OK
			want.Level = c.want
			if c.want == 0 {
				want, e = adj.Adjacency{State: api.Down}, api.ErrLevel
			}
			step(t, l, a, h, 2, want, e)
			if c.want == 0 { // that comes ahead of whom the hello names
				h.Their = nameC
				step(t, l, a, h, 2, want, e)
			}
		}
	}
}

func TestShare(t *testing.T) {
	for _, c := range []struct {
		ours, theirs [][]byte
		share        bool
	}{
		{[][]byte{area1}, [][]byte{area1}, true},
		{[][]byte{area1}, [][]byte{area3}, false},
		{[][]byte{area3}, [][]byte{area1}, false},
		{[][]byte{area1, area2}, [][]byte{area3, area2}, true},
		{[][]byte{area1, area1, area1}, [][]byte{area2, area3, area1}, true},
		{[][]byte{area3, area2, area1}, [][]byte{area1}, true},
		{[][]byte{area1, area2}, nil, false},
		{nil, [][]byte{area1}, false},
		{nil, nil, false},
		{[][]byte{{}}, [][]byte{nil}, true},
		{[][]byte{{}}, [][]byte{area1}, false},
		{[][]byte{{0}}, [][]byte{{}}, false},
	} {
		l, h := sideA(), fromB(api.Down, false)
		l.Areas, h.Areas = c.ours, c.theirs
		want := in(api.Init, 10)
		if !c.share {
			want.Level = api.L2
		}
		step(t, l, ofB(api.Down), h, 0, want, api.OK)
	}
}

func TestStepErrors(t *testing.T) {
	four := [][]byte{area1, area1, area1, area1}
	odd := adj.Adjacency{State: api.Up, Peer: nameC, Number: 1, Level: api.L2, Until: 3}
	for _, c := range []struct {
		what string
		turn func(*adj.Local, *adj.Adjacency, *adj.Hello, *int64)
		e    api.Errno
	}{
		{"our level 0", func(l *adj.Local, _ *adj.Adjacency, _ *adj.Hello, _ *int64) { l.Level = 0 }, api.ErrArg},
		{"our level 4", func(l *adj.Local, _ *adj.Adjacency, _ *adj.Hello, _ *int64) { l.Level = 4 }, api.ErrArg},
		{"our level -1", func(l *adj.Local, _ *adj.Adjacency, _ *adj.Hello, _ *int64) { l.Level = -1 }, api.ErrArg},
		{"their level 0", func(_ *adj.Local, _ *adj.Adjacency, h *adj.Hello, _ *int64) { h.Level = 0 }, api.ErrArg},
		{"their level 4", func(_ *adj.Local, _ *adj.Adjacency, h *adj.Hello, _ *int64) { h.Level = 4 }, api.ErrArg},
		{"state -1", func(_ *adj.Local, a *adj.Adjacency, _ *adj.Hello, _ *int64) { a.State = -1 }, api.ErrArg},
		{"state 3", func(_ *adj.Local, a *adj.Adjacency, _ *adj.Hello, _ *int64) { a.State = 3 }, api.ErrArg},
		{"told -1", func(_ *adj.Local, _ *adj.Adjacency, h *adj.Hello, _ *int64) { h.State = -1 }, api.ErrArg},
		{"told 3", func(_ *adj.Local, _ *adj.Adjacency, h *adj.Hello, _ *int64) { h.State = 3 }, api.ErrArg},
		{"told 3 of nobody", func(_ *adj.Local, _ *adj.Adjacency, h *adj.Hello, _ *int64) { h.State, h.Named = 3, false }, api.ErrArg},
		{"hold 0", func(_ *adj.Local, _ *adj.Adjacency, h *adj.Hello, _ *int64) { h.Hold = 0 }, api.ErrArg},
		{"hold 65536", func(_ *adj.Local, _ *adj.Adjacency, h *adj.Hello, _ *int64) { h.Hold = 65536 }, api.ErrArg},
		{"now -1", func(_ *adj.Local, _ *adj.Adjacency, _ *adj.Hello, now *int64) { *now = -1 }, api.ErrArg},
		{"now 2^62+1", func(_ *adj.Local, _ *adj.Adjacency, _ *adj.Hello, now *int64) { *now = 1<<62 + 1 }, api.ErrArg},
		{"our areas", func(l *adj.Local, _ *adj.Adjacency, _ *adj.Hello, _ *int64) { l.Areas = four }, api.ErrLong},
		{"their areas", func(_ *adj.Local, _ *adj.Adjacency, h *adj.Hello, _ *int64) { h.Areas = four }, api.ErrLong},
		{"our own name", func(l *adj.Local, _ *adj.Adjacency, h *adj.Hello, _ *int64) { h.Sys = l.Sys }, api.ErrExists},
		{"areas and our name", func(l *adj.Local, _ *adj.Adjacency, h *adj.Hello, _ *int64) { h.Sys, h.Areas = l.Sys, four }, api.ErrLong},
		{"all", func(l *adj.Local, _ *adj.Adjacency, h *adj.Hello, _ *int64) { h.Sys, h.Areas, h.Hold = l.Sys, four, -1 }, api.ErrArg},
		{"our name and no level", func(l *adj.Local, _ *adj.Adjacency, h *adj.Hello, _ *int64) {
			h.Sys, h.Level, l.Level = l.Sys, api.L1, api.L2
		}, api.ErrExists},
	} {
		for _, a := range []adj.Adjacency{ofB(api.Up), ofB(api.Init), ofB(api.Down), odd} {
			l, h, now := sideA(), fromB(api.Init, true), int64(9)
			c.turn(&l, &a, &h, &now)
			if got, e := adj.Step(l, a, h, now); got != a || e != c.e {
				t.Errorf("%s: %v, %d; want %v, %d", c.what, got, e, a, c.e)
			}
		}
	}
}

// The last things that are right.
func TestStepEdges(t *testing.T) {
	for _, hold := range []int{1, 65535} {
		for _, now := range []int64{0, 1 << 62} {
			l, h := sideA(), fromB(api.Init, true)
			l.Areas, h.Areas, h.Hold = [][]byte{area3, area2, area1}, [][]byte{area1, area1, area1}, hold
			step(t, l, ofB(api.Down), h, now, in(api.Up, now+int64(hold)), api.OK)
		}
	}
	l, h := sideA(), fromB(api.Init, true)
	h.Number, l.Number, h.There = 0, 255, 255
	want := in(api.Up, 13)
	want.Number = 0
	step(t, l, ofB(api.Down), h, 3, want, api.OK)
	if got, e := adj.Step(l, want, h, 4); got.State != api.Up || got.Until != 14 || e != api.OK {
		t.Errorf("number 0: %v, %d", got, e)
	}
}

// P10.2

func TestExpire(t *testing.T) {
	for _, c := range []struct {
		a    adj.Adjacency
		now  int64
		gone bool
	}{
		{ofB(api.Up), 76, false}, {ofB(api.Up), 77, true}, {ofB(api.Up), 78, true}, {ofB(api.Up), math.MaxInt64, true}, {ofB(api.Up), math.MinInt64, false},
		{ofB(api.Init), 76, false}, {ofB(api.Init), 77, true}, {ofB(api.Init), 1 << 62, true}, {ofB(api.Init), -1, false},
		{ofB(api.Down), 0, false}, {ofB(api.Down), 1 << 62, false},
		{adj.Adjacency{State: 7, Peer: nameB, Until: 3}, 5, false}, {adj.Adjacency{State: -1, Peer: nameB, Until: 3}, 5, false},
	} {
		want := c.a
		if c.gone {
			want = adj.Adjacency{State: api.Down}
		}
		if got := adj.Expire(c.a, c.now); got != want {
			t.Errorf("Expire(%v, %d) = %v; want %v", c.a, c.now, got, want)
		}
	}
}

func TestTell(t *testing.T) {
	for _, state := range []int{api.Up, api.Init, api.Down} {
		for level := api.L1; level <= api.Both; level++ {
			for _, hold := range []int{1, 10, 65535} {
				for _, areas := range [][][]byte{nil, {}, {area1}, {area1, area2, area3}, {{}, nil}} {
					l := adj.Local{Sys: nameA, Number: 4, Level: level, Areas: areas}
					want := adj.Hello{Sys: nameA, Number: 4, Level: level, Hold: hold, State: state}
					if state != api.Down {
						want.Named, want.Their, want.There = true, nameB, 5
					}
					got, e := adj.Tell(l, ofB(state), hold)
					if !slices.EqualFunc(got.Areas, areas, bytes.Equal) || e != api.OK {
						t.Errorf("Tell(%v, .., %d) = %v, %d", l, hold, got, e)
					}
					if got.Areas = nil; !reflect.DeepEqual(got, want) {
						t.Errorf("Tell(%v, .., %d) = %v; want %v", l, hold, got, want)
					}
				}
			}
		}
	}
	// Of one that is Down nothing else is told.
	odd := adj.Adjacency{State: api.Down, Peer: nameB, Number: 5, Level: 3, Until: 8}
	if got, e := adj.Tell(sideA(), odd, 10); got.Named || got.Their != (api.SysID{}) || got.There != 0 || e != api.OK {
		t.Errorf("Tell of %v: %v, %d", odd, got, e)
	}
}

func TestTellErrors(t *testing.T) {
	four := [][]byte{area1, area1, area1, area1}
	for _, c := range []struct {
		level, state, hold int
		areas              [][]byte
		e                  api.Errno
	}{
		{0, api.Up, 10, nil, api.ErrArg},
		{4, api.Up, 10, nil, api.ErrArg},
		{-1, api.Up, 10, nil, api.ErrArg},
		{3, -1, 10, nil, api.ErrArg},
		{3, 3, 10, nil, api.ErrArg},
		{3, api.Up, 0, nil, api.ErrArg},
		{3, api.Up, -1, nil, api.ErrArg},
		{3, api.Up, 65536, nil, api.ErrArg},
		{3, api.Up, 65536, four, api.ErrArg},
		{3, api.Up, 10, four, api.ErrLong},
		{1, api.Down, 10, four, api.ErrLong},
	} {
		l, a := adj.Local{Sys: nameA, Number: 4, Level: c.level, Areas: c.areas}, ofB(api.Up)
		a.State = c.state
		if got, e := adj.Tell(l, a, c.hold); !reflect.DeepEqual(got, adj.Hello{}) || e != c.e {
			t.Errorf("%v: %v, %d", c, got, e)
		}
	}
}

// P10.3

// turns lets two sides tell one another by turns, the first one three times, and tells how often it did till both were Up for good.
func turns(t *testing.T, a, b adj.Local, x, y adj.Adjacency, n int) int {
	t.Helper()
	upBehind := 0
	for i := range n {
		h, e := adj.Tell(a, x, 10)
		if e != api.OK {
			t.Fatal(e)
		}
		if y, e = adj.Step(b, y, h, int64(i)); e != api.OK {
			t.Fatal(e)
		}
		if h, e = adj.Tell(b, y, 10); e != api.OK {
			t.Fatal(e)
		}
		if upBehind == 0 && bothUp(a, b, x, y) {
			upBehind = i + 1
		}
		if x, e = adj.Step(a, x, h, int64(i)); e != api.OK {
			t.Fatal(e)
		}
		if upBehind > 0 && !bothUp(a, b, x, y) {
			t.Fatalf("no longer Up: %v, %v", x, y)
		}
	}
	return upBehind
}

// bothUp tells whether the two are Up with one another, as they are now.
func bothUp(a, b adj.Local, x, y adj.Adjacency) bool {
	x.Until, y.Until = 0, 0
	return x == adj.Adjacency{State: api.Up, Peer: b.Sys, Number: b.Number, Level: a.Level & b.Level} &&
		y == adj.Adjacency{State: api.Up, Peer: a.Sys, Number: a.Number, Level: a.Level & b.Level}
}

// From each state of either side: Down, or of the other one, with levels that hold or held.
func TestBothUp(t *testing.T) {
	for _, levels := range [][2]int{{3, 3}, {1, 1}, {2, 2}, {3, 2}, {1, 3}} {
		a, b := sideA(), sideB()
		a.Level, b.Level = levels[0], levels[1]
		for mine := range 9 {
			for their := range 9 {
				x := adj.Adjacency{State: mine % 3, Peer: nameB, Number: 5, Level: 1 + mine/3}
				y := adj.Adjacency{State: their % 3, Peer: nameA, Number: 4, Level: 1 + their/3}
				if n := turns(t, a, b, x, y, 8); n == 0 || n > 3 {
					t.Errorf("levels %v, from %v and %v: up behind %d", levels, x, y, n)
				}
			}
		}
	}
}

// One of both was another one's before: with another name or number.
func TestBothUpAnew(t *testing.T) {
	was := adj.Adjacency{State: api.Up, Peer: nameC, Number: 5, Level: api.Both, Until: 8}
	number := adj.Adjacency{State: api.Up, Peer: nameB, Number: 6, Level: api.Both, Until: 8}
	for _, x := range []adj.Adjacency{was, number} {
		for state := range 3 {
			y := adj.Adjacency{State: state, Peer: nameA, Number: 4, Level: api.Both}
			if n := turns(t, sideA(), sideB(), x, y, 8); n == 0 || n > 3 {
				t.Errorf("from %v and %v: up behind %d", x, y, n)
			}
			if n := turns(t, sideB(), sideA(), y, x, 8); n == 0 || n > 3 {
				t.Errorf("from %v and %v: up behind %d", y, x, n)
			}
		}
	}
}

// The chapter's examples.

func TestExamples(t *testing.T) {
	a, b := sideA(), sideB()
	down := adj.Adjacency{State: api.Down}
	h, _ := adj.Tell(b, down, 10)
	x, e := adj.Step(a, down, h, 1)
	if x.State != api.Init || h.Named || e != api.OK {
		t.Errorf("of B a hello with Down: %v, %d", x, e)
	}
	h, _ = adj.Tell(a, x, 10)
	y, e := adj.Step(b, down, h, 2)
	if !h.Named || h.State != api.Init || h.Their != nameB || y.State != api.Up || e != api.OK {
		t.Errorf("A tells Init, naming B: %v, %v, %d", h, y, e)
	}
	h, _ = adj.Tell(b, y, 10)
	if x, e = adj.Step(a, x, h, 3); x != in(api.Up, 13) || e != api.OK {
		t.Errorf("B tells Up, naming A: %v, %d", x, e)
	}
	h, _ = adj.Tell(b, down, 10) // B was started anew
	if x, e = adj.Step(a, x, h, 4); x != in(api.Init, 14) || e != api.OK {
		t.Errorf("B tells Down: %v, %d", x, e)
	}
	h.Sys, h.Number = nameC, 5
	if x, e = adj.Step(a, in(api.Up, 9), h, 5); x.State != api.Init || x.Peer != nameC || e != api.OK {
		t.Errorf("a hello of C: %v, %d", x, e)
	}
}

// What holds everywhere: P1, P2.

func TestNothingPanics(t *testing.T) {
	r := rand.New(rand.NewSource(10))
	small := func() int { return r.Intn(6) - 1 }
	areas := func() (list [][]byte) {
		for range r.Intn(5) {
			list = append(list, [][]byte{nil, {}, area1, area2, make([]byte, 300)}[r.Intn(5)])
		}
		return list
	}
	times := []int64{math.MinInt64, -1, 0, 5, 1 << 62, 1<<62 + 1, math.MaxInt64}
	holds := []int{math.MinInt, 0, 1, 10, 65535, 65536, math.MaxInt}
	names := []api.SysID{{}, nameA, nameB}
	for range 200000 {
		l := adj.Local{Sys: names[r.Intn(3)], Number: byte(r.Intn(2)), Level: small(), Areas: areas()}
		a := adj.Adjacency{State: small(), Peer: names[r.Intn(3)], Number: byte(r.Intn(2)), Level: small(), Until: times[r.Intn(7)]}
		h := adj.Hello{Sys: names[r.Intn(3)], Number: byte(r.Intn(2)), Level: small(), Hold: holds[r.Intn(7)], Areas: areas(), State: small(), Named: r.Intn(2) > 0, Their: names[r.Intn(3)], There: byte(r.Intn(2))}
		now := times[r.Intn(7)]
		got, e := adj.Step(l, a, h, now)
		if again, f := adj.Step(l, a, h, now); again != got || f != e {
			t.Fatalf("not the same again: %v, %d; %v, %d", got, e, again, f)
		}
		adj.Expire(a, now)
		if told, e := adj.Tell(l, a, h.Hold); e != api.OK && !reflect.DeepEqual(told, adj.Hello{}) {
			t.Fatalf("beside %d: %v", e, told)
		}
	}
}

// fill writes over all that the areas have, and over their spare room.
func fill(areas [][]byte) {
	areas = areas[:cap(areas)]
	for _, area := range areas {
		area = area[:cap(area)]
		for i := range area {
			area[i] = 0xee
		}
	}
	clear(areas)
}

// roomy answers areas with spare room all over.
func roomy() [][]byte {
	back := []byte{0x49, 1, 0x49, 2, 9, 9}
	list := [][]byte{back[0:2], back[2:4], {7}}
	return list[:2]
}

func TestMemory(t *testing.T) {
	areas := roomy()
	l := sideA()
	l.Areas = areas
	h, _ := adj.Tell(l, ofB(api.Up), 10)
	other, _ := adj.Tell(l, ofB(api.Up), 10)
	h2 := fromB(api.Init, true)
	h2.Areas = roomy()
	adj.Step(l, ofB(api.Up), h2, 3)
	for _, list := range [][][]byte{areas, h2.Areas} {
		if got, want := fmt.Sprint(list[:cap(list)], list[0][:cap(list[0])]), fmt.Sprint([][]byte{area1, area2, {7}}, []byte{0x49, 1, 0x49, 2, 9, 9}); got != want {
			t.Errorf("what was handed in became %s; was %s", got, want)
		}
	}
	fill(areas)
	if !slices.EqualFunc(h.Areas, [][]byte{area1, area2}, bytes.Equal) {
		t.Errorf("what was told shares memory with what was handed in: %v", h.Areas)
	}
	first := h.Areas[0][:cap(h.Areas[0])]
	for i := range first {
		first[i] = 0xee
	}
	if !bytes.Equal(h.Areas[1], area2) {
		t.Errorf("an area shares memory with the one ahead of it: %v", h.Areas)
	}
	fill(h.Areas)
	if !slices.EqualFunc(other.Areas, [][]byte{area1, area2}, bytes.Equal) {
		t.Errorf("two answers share memory: %v", other.Areas)
	}
}
