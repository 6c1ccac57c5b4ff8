package wheel_test

import (
	"cmp"
	"math"
	"math/rand"
	"slices"
	"testing"

	"waymark/api"
	"waymark/wheel"
)

// set sets timers that can be set.
func set(t *testing.T, w *wheel.Wheel, list ...wheel.Shot) {
	t.Helper()
	for _, s := range list {
		if e := w.Set(s.ID, s.At); e != api.OK {
			t.Fatalf("Set(%d, %d) = %d", s.ID, s.At, e)
		}
	}
}

// advance looks at what goes off up to that time.
func advance(t *testing.T, w *wheel.Wheel, to int64, want ...wheel.Shot) {
	t.Helper()
	if got, e := w.Advance(to); !slices.Equal(got, want) || e != api.OK {
		t.Fatalf("Advance(%d) = %v, %d; want %v", to, got, e, want)
	}
	if w.Now() != to {
		t.Fatalf("Now() = %d; want %d", w.Now(), to)
	}
}

// stands looks at what is still to come: at the first one and at how many there are.
func stands(t *testing.T, w *wheel.Wheel, first wheel.Shot, n int) {
	t.Helper()
	if got, ok := w.Next(); got != first || ok != (n > 0) || w.Count() != n {
		t.Fatalf("Next() = %v, %t, Count() = %d; want %v, %d", got, ok, w.Count(), first, n)
	}
}

func TestExample(t *testing.T) {
	w := wheel.New()
	set(t, w, wheel.Shot{ID: 7, At: 5}, wheel.Shot{ID: 3, At: 5}, wheel.Shot{ID: 9, At: 2}, wheel.Shot{ID: 7, At: 4})
	stands(t, w, wheel.Shot{ID: 9, At: 2}, 3)
	advance(t, w, 4, wheel.Shot{ID: 9, At: 2}, wheel.Shot{ID: 7, At: 4})
	advance(t, w, 5, wheel.Shot{ID: 3, At: 5})
	if e := w.Set(1, 5); e != api.ErrArg {
		t.Errorf("Set(1, 5) = %d", e)
	}
	if list, e := w.Advance(4); len(list) != 0 || e != api.ErrArg {
		t.Errorf("Advance(4) = %v, %d", list, e)
	}
}

// P9.1

func TestSetAgain(t *testing.T) {
	for _, at := range []int64{1, 4, 5, 6, 9, math.MaxInt64} {
		w := wheel.New()
		set(t, w, wheel.Shot{ID: 1, At: 5}, wheel.Shot{ID: 2, At: 5}, wheel.Shot{ID: 3, At: 8}, wheel.Shot{ID: 2, At: at})
		want := []wheel.Shot{{ID: 1, At: 5}, {ID: 2, At: at}, {ID: 3, At: 8}}
		slices.SortFunc(want, order)
		stands(t, w, want[0], 3)
		advance(t, w, math.MaxInt64, want...)
		stands(t, w, wheel.Shot{}, 0)
	}
}

func TestSetAtTheTime(t *testing.T) {
	w := wheel.New()
	set(t, w, wheel.Shot{ID: 1, At: 30})
	for _, now := range []int64{0, 1, 20} {
		advance(t, w, now)
		for _, at := range []int64{now, now - 1, -1, math.MinInt64} {
			for _, id := range []int{1, 2} {
				if e := w.Set(id, at); e != api.ErrArg {
					t.Errorf("at %d: Set(%d, %d) = %d", now, id, at, e)
				}
			}
		}
		stands(t, w, wheel.Shot{ID: 1, At: 30}, 1)
	}
	set(t, w, wheel.Shot{ID: 1, At: 21})
	advance(t, w, 21, wheel.Shot{ID: 1, At: 21})
}

func TestFull(t *testing.T) {
	w := wheel.New()
	for id := range api.MaxTimers {
		set(t, w, wheel.Shot{ID: id, At: 10})
	}
	for _, id := range []int{api.MaxTimers, -1} {
		if e := w.Set(id, 11); e != api.ErrFull {
			t.Errorf("Set(%d, 11) = %d", id, e)
		}
		if e := w.Set(id, 0); e != api.ErrArg {
			t.Errorf("Set(%d, 0) = %d", id, e)
		}
	}
	stands(t, w, wheel.Shot{ID: 0, At: 10}, api.MaxTimers)
	set(t, w, wheel.Shot{ID: 500, At: 1}) // one of this id is gone
	stands(t, w, wheel.Shot{ID: 500, At: 1}, api.MaxTimers)
	if e := w.Cancel(3); e != api.OK {
		t.Errorf("Cancel(3) = %d", e)
	}
	set(t, w, wheel.Shot{ID: -1, At: 9})
	if e := w.Set(3, 9); e != api.ErrFull {
		t.Errorf("Set(3, 9) = %d", e)
	}
	advance(t, w, 9, wheel.Shot{ID: 500, At: 1}, wheel.Shot{ID: -1, At: 9})
	set(t, w, wheel.Shot{ID: 3, At: 11}, wheel.Shot{ID: 2000, At: 11})
	if e := w.Set(2001, 11); e != api.ErrFull {
		t.Errorf("Set(2001, 11) = %d", e)
	}
}

func TestCancel(t *testing.T) {
	for gone := range 9 {
		w := wheel.New()
		var want []wheel.Shot
		for id := range 9 {
			s := wheel.Shot{ID: id, At: int64(1 + id*4%9)}
			set(t, w, s)
			if id != gone {
				want = append(want, s)
			}
		}
		slices.SortFunc(want, order)
		if e := w.Cancel(gone); e != api.OK {
			t.Errorf("Cancel(%d) = %d", gone, e)
		}
		for _, id := range []int{gone, 9, -1} {
			if e := w.Cancel(id); e != api.ErrNone {
				t.Errorf("Cancel(%d) = %d", id, e)
			}
		}
		stands(t, w, want[0], 8)
		advance(t, w, 9, want...)
		if e := w.Cancel(want[0].ID); e != api.ErrNone {
			t.Errorf("Cancel of one that has gone off = %d", e)
		}
	}
}

// P9.2

func TestAdvanceOrder(t *testing.T) {
	w := wheel.New()
	set(t, w, wheel.Shot{ID: 3, At: 2}, wheel.Shot{ID: -3, At: 2}, wheel.Shot{ID: math.MaxInt, At: 1}, wheel.Shot{ID: math.MinInt, At: 3}, wheel.Shot{ID: 0, At: 2})
	advance(t, w, 0)
	advance(t, w, 3, wheel.Shot{ID: math.MaxInt, At: 1}, wheel.Shot{ID: -3, At: 2}, wheel.Shot{ID: 0, At: 2}, wheel.Shot{ID: 3, At: 2}, wheel.Shot{ID: math.MinInt, At: 3})
	advance(t, w, 3)
	advance(t, w, math.MaxInt64)
	if e := w.Set(1, math.MaxInt64); e != api.ErrArg {
		t.Errorf("Set at the last time of all = %d", e)
	}
}

func TestAdvanceBack(t *testing.T) {
	w := wheel.New()
	set(t, w, wheel.Shot{ID: 1, At: 9})
	for _, now := range []int64{0, 5, 8} {
		advance(t, w, now)
		for _, to := range []int64{now - 1, -1, math.MinInt64} {
			if list, e := w.Advance(to); len(list) != 0 || e != api.ErrArg {
				t.Errorf("at %d: Advance(%d) = %v, %d", now, to, list, e)
			}
		}
		if w.Now() != now {
			t.Errorf("Now() = %d; want %d", w.Now(), now)
		}
		stands(t, w, wheel.Shot{ID: 1, At: 9}, 1)
	}
}

// order is that of times and of ids.
func order(a, b wheel.Shot) int {
	return cmp.Or(cmp.Compare(a.At, b.At), cmp.Compare(a.ID, b.ID))
}

// model is a wheel that is as slow as it is plain.
type model struct {
	now  int64
	list []wheel.Shot
}

func (m *model) place(id int) int {
	return slices.IndexFunc(m.list, func(s wheel.Shot) bool { return s.ID == id })
}

func (m *model) set(id int, at int64) api.Errno {
	i := m.place(id)
	switch {
	case at <= m.now:
		return api.ErrArg
	case i >= 0:
		m.list[i].At = at
	case len(m.list) == api.MaxTimers:
		return api.ErrFull
	default:
		m.list = append(m.list, wheel.Shot{ID: id, At: at})
	}
	slices.SortFunc(m.list, order)
	return api.OK
}

func (m *model) cancel(id int) api.Errno {
	i := m.place(id)
	if i < 0 {
		return api.ErrNone
	}
	m.list = slices.Delete(m.list, i, i+1)
	return api.OK
}

func (m *model) advance(to int64) ([]wheel.Shot, api.Errno) {
	if to < m.now {
		return nil, api.ErrArg
	}
	m.now = to
	n := 0
	for n < len(m.list) && m.list[n].At <= to {
		n++
	}
	gone := slices.Clone(m.list[:n])
	m.list = slices.Delete(m.list, 0, n)
	return gone, api.OK
}

// The wheel against the model, with few ids and with many.
func TestAgainstModel(t *testing.T) {
	for seed := range 40 {
		r := rand.New(rand.NewSource(int64(900 + seed)))
		ids, ahead := 1+r.Intn(1<<r.Intn(12)), 1+r.Intn(60)
		w, m := wheel.New(), &model{}
		for range 3000 {
			id, at := r.Intn(ids)-ids/2, m.now+int64(r.Intn(ahead))-1
			switch r.Intn(12) {
			case 0:
				got, e := w.Advance(at)
				want, f := m.advance(at)
				if !slices.Equal(got, want) || e != f {
					t.Fatalf("Advance(%d) = %v, %d; want %v, %d", at, got, e, want, f)
				}
			case 1, 2:
				if e, f := w.Cancel(id), m.cancel(id); e != f {
					t.Fatalf("Cancel(%d) = %d; want %d", id, e, f)
				}
			default:
				if e, f := w.Set(id, at), m.set(id, at); e != f {
					t.Fatalf("Set(%d, %d) = %d; want %d", id, at, e, f)
				}
			}
			first := wheel.Shot{}
			if len(m.list) > 0 {
				first = m.list[0]
			}
			stands(t, w, first, len(m.list))
			if w.Now() != m.now {
				t.Fatalf("Now() = %d; want %d", w.Now(), m.now)
			}
		}
		last, e := w.Advance(math.MaxInt64)
		if want, _ := m.advance(math.MaxInt64); !slices.Equal(last, want) || e != api.OK {
			t.Fatalf("at the end: %v, %d; want %v", last, e, want)
		}
	}
}

// P9.3

func TestNewAndNil(t *testing.T) {
	for _, w := range []*wheel.Wheel{nil, wheel.New()} {
		stands(t, w, wheel.Shot{}, 0)
		if w.Now() != 0 {
			t.Errorf("Now() = %d", w.Now())
		}
	}
	var w *wheel.Wheel
	for _, c := range []struct{ got, want api.Errno }{
		{w.Set(1, 1), api.ErrNone},
		{w.Set(1, 0), api.ErrArg},
		{w.Set(1, -1), api.ErrArg},
		{w.Cancel(1), api.ErrNone},
		{w.Cancel(0), api.ErrNone},
	} {
		if c.got != c.want {
			t.Errorf("of nil: %d; want %d", c.got, c.want)
		}
	}
	for to, want := range map[int64]api.Errno{-1: api.ErrArg, 0: api.ErrNone, 1: api.ErrNone} {
		if list, e := w.Advance(to); len(list) != 0 || e != want {
			t.Errorf("of nil: Advance(%d) = %v, %d; want %d", to, list, e, want)
		}
	}
}

// Next and Count only tell: they change nothing.
func TestTellingChangesNothing(t *testing.T) {
	w := wheel.New()
	set(t, w, wheel.Shot{ID: 2, At: 5}, wheel.Shot{ID: 1, At: 5})
	for range 3 {
		stands(t, w, wheel.Shot{ID: 1, At: 5}, 2)
		if w.Now() != 0 {
			t.Errorf("Now() = %d", w.Now())
		}
	}
	advance(t, w, 5, wheel.Shot{ID: 1, At: 5}, wheel.Shot{ID: 2, At: 5})
}

// What holds everywhere: P1, P2.

func TestNothingPanics(t *testing.T) {
	ids := []int{math.MinInt, -1, 0, 1, 1024, math.MaxInt}
	times := []int64{math.MinInt64, -1, 0, 1, 1024, math.MaxInt64}
	for _, w := range []*wheel.Wheel{nil, wheel.New()} {
		for _, at := range times {
			for _, id := range ids {
				w.Set(id, at)
				w.Cancel(id)
				w.Set(id, at)
				w.Next()
				w.Count()
				w.Now()
			}
			w.Advance(at)
		}
	}
}

// Each wheel is one of its own.
func TestTwoWheels(t *testing.T) {
	a, b := wheel.New(), wheel.New()
	set(t, a, wheel.Shot{ID: 1, At: 3})
	stands(t, b, wheel.Shot{}, 0)
	advance(t, b, 7)
	set(t, b, wheel.Shot{ID: 1, At: 9})
	advance(t, a, 3, wheel.Shot{ID: 1, At: 3})
	stands(t, b, wheel.Shot{ID: 1, At: 9}, 1)
}

func TestMemory(t *testing.T) {
	w := wheel.New()
	fresh := func() []wheel.Shot {
		set(t, w, wheel.Shot{ID: 1, At: w.Now() + 1}, wheel.Shot{ID: 2, At: w.Now() + 1}, wheel.Shot{ID: 3, At: w.Now() + 1}, wheel.Shot{ID: 4, At: w.Now() + 2})
		list, _ := w.Advance(w.Now() + 1)
		return list
	}
	first := fresh()
	kept := slices.Clone(first)
	second := fresh()
	for i := range second[:cap(second)] {
		second[:cap(second)][i] = wheel.Shot{ID: -1, At: -1}
	}
	if !slices.Equal(first, kept) {
		t.Errorf("an earlier answer became %v; was %v", first, kept)
	}
	for i := range first[:cap(first)] {
		first[:cap(first)][i] = wheel.Shot{ID: -1, At: -1}
	}
	stands(t, w, wheel.Shot{ID: 4, At: 3}, 1)
	advance(t, w, 3, wheel.Shot{ID: 4, At: 3})
}
