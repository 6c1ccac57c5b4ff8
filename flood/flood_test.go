package flood_test

import (
	"bytes"
	"math"
	"math/rand"
	"slices"
	"testing"

	"waymark/api"
	"waymark/flood"
)

// number answers the ID of that number; they are in the numbers' order.
func number(n int) api.LSPID {
	return api.LSPID{Node: api.Node{Sys: api.SysID{4: byte(n >> 16), 5: byte(n >> 8)}, Pseudo: byte(n)}, Frag: 7}
}

// numbers answers the IDs of these numbers.
func numbers(list ...int) []api.LSPID {
	var ids []api.LSPID
	for _, n := range list {
		ids = append(ids, number(n))
	}
	return ids
}

// many answers n IDs.
func many(n int) []api.LSPID {
	var ids []api.LSPID
	for i := range n {
		ids = append(ids, number(i))
	}
	return ids
}

// made answers a flood of so many circuits.
func made(t *testing.T, circuits int) *flood.Flood {
	t.Helper()
	f, e := flood.New(circuits)
	if f == nil || e != api.OK {
		t.Fatalf("New(%d) = %v, %d", circuits, f, e)
	}
	return f
}

// opened answers a flood whose circuits are open, of these mesh groups, with nothing.
func opened(t *testing.T, meshes ...int) *flood.Flood {
	t.Helper()
	f := made(t, len(meshes))
	for c, mesh := range meshes {
		is(t, "Open", f.Open(c, mesh, nil), api.OK)
	}
	return f
}

// is looks at the error that a call answers.
func is(t *testing.T, call string, got, want api.Errno) {
	t.Helper()
	if got != want {
		t.Fatalf("%s answers %d; want %d", call, got, want)
	}
}

// sends looks at what is to send over c, twice, as it stays so.
func sends(t *testing.T, f *flood.Flood, c int, want ...api.LSPID) {
	t.Helper()
	for range 2 {
		if got, e := f.Sends(c); !slices.Equal(got, want) || e != api.OK {
			t.Fatalf("Sends(%d) = %v, %d; want %v", c, got, e, want)
		}
	}
}

// sums looks at what is to sum over c; then nothing is.
func sums(t *testing.T, f *flood.Flood, c int, want ...api.LSPID) {
	t.Helper()
	if got, e := f.Sums(c); !slices.Equal(got, want) || e != api.OK {
		t.Fatalf("Sums(%d) = %v, %d; want %v", c, got, e, want)
	}
	if got, e := f.Sums(c); len(got) != 0 || e != api.OK {
		t.Fatalf("Sums(%d) again = %v, %d; want none", c, got, e)
	}
}

// closed looks at whether c is not open, by what the calls of it answer.
func closed(t *testing.T, f *flood.Flood, c int) {
	t.Helper()
	refuses(t, f, c, api.ErrState)
	is(t, "Close", f.Close(c), api.ErrState)
}

// refuses looks at the error that all calls of an open circuit answer; Close is left out.
func refuses(t *testing.T, f *flood.Flood, c int, want api.Errno) {
	t.Helper()
	for _, rel := range []int{-1, 0, 1} {
		is(t, "Took", f.Took(c, number(1), rel), want)
		is(t, "Heard", f.Heard(c, number(1), rel), want)
	}
	for _, ids := range [][]api.LSPID{nil, many(1), many(api.MaxLSPs)} {
		is(t, "Missing", f.Missing(c, ids), want)
	}
	got, e := f.Sends(c)
	is(t, "Sends", e, want)
	if len(got) != 0 {
		t.Fatalf("Sends(%d) = %v beside an error", c, got)
	}
	got, e = f.Sums(c)
	is(t, "Sums", e, want)
	if len(got) != 0 {
		t.Fatalf("Sums(%d) = %v beside an error", c, got)
	}
}

func TestExamples(t *testing.T) {
	f := opened(t, 5, 5, 0)
	a, b := number(1), number(2)
	is(t, "Took", f.Took(0, a, 1), api.OK)
	sends(t, f, 0)
	sends(t, f, 1)
	sends(t, f, 2, a)
	sums(t, f, 0, a)
	sums(t, f, 1)
	sums(t, f, 2)
	is(t, "Heard", f.Heard(2, a, 0), api.OK)
	sends(t, f, 2)
	is(t, "Took", f.Took(-1, b, 1), api.OK)
	for c := range 3 {
		sends(t, f, c, b)
		sums(t, f, c)
	}
}

func TestNew(t *testing.T) {
	for n := 1; n <= api.MaxCircuits; n++ {
		f := made(t, n)
		for c := range n {
			closed(t, f, c)
			is(t, "Open", f.Open(c, 0, nil), api.OK)
			sends(t, f, c)
			sums(t, f, c)
		}
		refuses(t, f, n, api.ErrArg)
		is(t, "Open", f.Open(n, 0, nil), api.ErrArg)
	}
	for _, n := range []int{math.MinInt, -8, -1, 0, api.MaxCircuits + 1, api.MaxLSPs, math.MaxInt} {
		if f, e := flood.New(n); f != nil || e != api.ErrArg {
			t.Errorf("New(%d) = %v, %d", n, f, e)
		}
	}
}

// P13.1

func TestOpen(t *testing.T) {
	for _, mesh := range []int{-1, 0, 1, 2, math.MaxInt} {
		for _, ids := range [][]api.LSPID{nil, {}, numbers(3), numbers(9, 2, 300, 2, 9, 9, 1), many(api.MaxLSPs)} {
			f := made(t, 2)
			is(t, "Open", f.Open(1, mesh, ids), api.OK)
			want := slices.Clone(ids)
			slices.SortFunc(want, order)
			want = slices.Compact(want)
			if mesh == -1 {
				want = nil
			}
			sends(t, f, 1, want...)
			sums(t, f, 1)
			closed(t, f, 0)
		}
	}
}

// Circuits don't have to do with one another: what opens on the one is on it alone.
func TestOpenOfSeveral(t *testing.T) {
	f := made(t, 3)
	is(t, "Open", f.Open(0, 0, numbers(1, 2)), api.OK)
	is(t, "Open", f.Open(2, 7, numbers(2, 3)), api.OK)
	closed(t, f, 1)
	is(t, "Open", f.Open(1, 7, nil), api.OK)
	sends(t, f, 0, numbers(1, 2)...)
	sends(t, f, 1)
	sends(t, f, 2, numbers(2, 3)...)
}

// It is open already: nothing changes, neither what it has nor its mesh group.
func TestOpenAgain(t *testing.T) {
	f := opened(t, 5, 5)
	is(t, "Missing", f.Missing(0, numbers(1)), api.OK)
	is(t, "Took", f.Took(0, number(2), 0), api.OK)
	is(t, "Open", f.Open(0, 6, numbers(3)), api.ErrState)
	is(t, "Open", f.Open(0, -1, nil), api.ErrState)
	sends(t, f, 0, number(1))
	sums(t, f, 0, number(2))
	is(t, "Took", f.Took(1, number(4), 1), api.OK)
	sends(t, f, 0, number(1))
}

func TestClose(t *testing.T) {
	f := opened(t, 5, 5, 0)
	for c := range 3 {
		is(t, "Missing", f.Missing(c, numbers(1)), api.OK)
		is(t, "Heard", f.Heard(c, number(2), 1), api.OK)
	}
	is(t, "Close", f.Close(1), api.OK)
	closed(t, f, 1)
	sends(t, f, 0, number(1))
	sends(t, f, 2, number(1))
	sums(t, f, 0, number(2))
	sums(t, f, 2, number(2))
	// While it is closed nothing is put onto it.
	is(t, "Took", f.Took(2, number(3), 1), api.OK)
	is(t, "Took", f.Took(-1, number(4), 1), api.OK)
	// What it had, and its mesh group, are gone.
	is(t, "Open", f.Open(1, 0, numbers(9)), api.OK)
	sends(t, f, 1, number(9))
	sums(t, f, 1)
	is(t, "Took", f.Took(0, number(6), 1), api.OK)
	sends(t, f, 1, numbers(6, 9)...)
}

// P13.2 and P13.3

// has are what one ID may be on a circuit.
type has struct {
	send, sum bool
}

// states are all of them.
var states = []has{{false, false}, {true, false}, {false, true}, {true, true}}

// bring makes the ID be so on c.
func bring(t *testing.T, f *flood.Flood, c int, id api.LSPID, h has) {
	t.Helper()
	is(t, "Heard", f.Heard(c, id, 0), api.OK)
	if h.sum {
		is(t, "Heard", f.Heard(c, id, 1), api.OK)
	}
	if h.send {
		is(t, "Missing", f.Missing(c, []api.LSPID{id}), api.OK)
	}
}

// looks looks at whether the ID is so on c, and whether another one, 1, is still to send and to sum.
func looks(t *testing.T, f *flood.Flood, c int, id api.LSPID, h has) {
	t.Helper()
	send, sum := numbers(1), numbers(1)
	if h.send {
		send = append(send, id)
	}
	if h.sum {
		sum = append(sum, id)
	}
	sends(t, f, c, send...)
	sums(t, f, c, sum...)
}

// begin answers a flood with circuits of these mesh groups, on each of which the ID is so and 1 is both.
func begin(t *testing.T, id api.LSPID, h has, meshes ...int) *flood.Flood {
	t.Helper()
	f := opened(t, meshes...)
	for c := range meshes {
		bring(t, f, c, number(1), has{true, true})
		bring(t, f, c, id, h)
	}
	return f
}

// The tests below have circuits of these mesh groups: of none, of one, and blocked, there are two.
var meshes = []int{0, 0, 5, 5, 6, -1, -1, 1}

func TestTookNewer(t *testing.T) {
	id := number(2)
	for _, h := range states {
		for c := -1; c < len(meshes); c++ {
			f := begin(t, id, h, meshes...)
			is(t, "Took", f.Took(c, id, 1), api.OK)
			for d, mesh := range meshes {
				switch {
				case d == c:
					looks(t, f, d, id, has{sum: true})
				case mesh == -1:
					looks(t, f, d, id, has{})
				case c >= 0 && mesh > 0 && mesh == meshes[c]:
					looks(t, f, d, id, has{})
				default:
					looks(t, f, d, id, has{send: true})
				}
			}
		}
	}
}

func TestTookTheSameOrOlder(t *testing.T) {
	id := number(2)
	for _, h := range states {
		for c := range meshes {
			for rel, want := range map[int]has{0: {sum: true}, -1: {send: true}} {
				f := begin(t, id, h, meshes...)
				is(t, "Took", f.Took(c, id, rel), api.OK)
				for d := range meshes {
					if d == c {
						looks(t, f, d, id, want)
					} else {
						looks(t, f, d, id, h)
					}
				}
			}
		}
	}
}

// What is newer isn't put onto circuits that aren't open.
func TestTookWithFewOpen(t *testing.T) {
	f := made(t, 3)
	is(t, "Took", f.Took(-1, number(1), 1), api.OK)
	is(t, "Open", f.Open(1, 0, nil), api.OK)
	sends(t, f, 1)
	is(t, "Took", f.Took(1, number(2), 1), api.OK)
	is(t, "Open", f.Open(0, 0, nil), api.OK)
	sends(t, f, 0)
	sends(t, f, 1)
	sums(t, f, 1, number(2))
	closed(t, f, 2)
}

// Beside an error nothing changes.
func TestTookErrors(t *testing.T) {
	id := number(2)
	for _, h := range states {
		f := begin(t, id, h, 0, 5, -1)
		is(t, "Close", f.Close(1), api.OK)
		for _, rel := range []int{-1, 0, 1} {
			is(t, "Took", f.Took(1, id, rel), api.ErrState)
			is(t, "Heard", f.Heard(1, id, rel), api.ErrState)
			for _, c := range []int{math.MinInt, -2, 3, api.MaxCircuits, math.MaxInt} {
				is(t, "Took", f.Took(c, id, rel), api.ErrArg)
				is(t, "Heard", f.Heard(c, id, rel), api.ErrArg)
			}
			is(t, "Heard", f.Heard(-1, id, rel), api.ErrArg)
		}
		is(t, "Took", f.Took(-1, id, 0), api.ErrArg)
		is(t, "Took", f.Took(-1, id, -1), api.ErrArg)
		for _, rel := range []int{math.MinInt, -2, 2, math.MaxInt} {
			for c := -1; c < 3; c++ {
				is(t, "Took", f.Took(c, id, rel), api.ErrArg)
				is(t, "Heard", f.Heard(c, id, rel), api.ErrArg)
			}
		}
		looks(t, f, 0, id, h)
		looks(t, f, 2, id, h)
	}
}

func TestHeard(t *testing.T) {
	id := number(2)
	for _, h := range states {
		for c := range meshes {
			for rel, want := range map[int]has{1: {sum: true}, 0: {sum: h.sum}, -1: {send: true}} {
				f := begin(t, id, h, meshes...)
				is(t, "Heard", f.Heard(c, id, rel), api.OK)
				for d := range meshes {
					if d == c {
						looks(t, f, d, id, want)
					} else {
						looks(t, f, d, id, h)
					}
				}
			}
		}
	}
}

// They are to send even over a blocked circuit, and stay to sum, if they are.
func TestMissing(t *testing.T) {
	for c := range meshes {
		f := opened(t, meshes...)
		is(t, "Heard", f.Heard(c, number(4), 1), api.OK)
		is(t, "Missing", f.Missing(c, nil), api.OK)
		sends(t, f, c)
		is(t, "Missing", f.Missing(c, numbers(7, 4, 7, 600, 1)), api.OK)
		is(t, "Missing", f.Missing(c, numbers(5, 4)), api.OK)
		for d := range meshes {
			if d != c {
				sends(t, f, d)
				sums(t, f, d)
			}
		}
		sends(t, f, c, numbers(1, 4, 5, 7, 600)...)
		sums(t, f, c, number(4))
	}
}

func TestTooMany(t *testing.T) {
	f := made(t, 2)
	same := slices.Repeat(numbers(1), api.MaxLSPs+1)
	for _, ids := range [][]api.LSPID{many(api.MaxLSPs + 1), same, many(5000)} {
		for _, mesh := range []int{-1, 0, 4} {
			is(t, "Open", f.Open(0, mesh, ids), api.ErrLong)
			is(t, "Open", f.Open(0, -2, ids), api.ErrArg)
			is(t, "Open", f.Open(2, mesh, ids), api.ErrArg)
			closed(t, f, 0)
		}
		is(t, "Missing", f.Missing(0, ids), api.ErrLong)
		is(t, "Missing", f.Missing(2, ids), api.ErrArg)
		is(t, "Missing", f.Missing(-1, ids), api.ErrArg)
		is(t, "Open", f.Open(0, 0, numbers(9)), api.OK)
		is(t, "Open", f.Open(0, 0, ids), api.ErrLong)
		is(t, "Missing", f.Missing(0, ids), api.ErrLong)
		sends(t, f, 0, number(9))
		is(t, "Close", f.Close(0), api.OK)
	}
	// The bound is that of a list, not of what there is.
	is(t, "Open", f.Open(1, 0, many(api.MaxLSPs)), api.OK)
	is(t, "Missing", f.Missing(1, many(2 * api.MaxLSPs)[api.MaxLSPs:]), api.OK)
	is(t, "Missing", f.Missing(1, same[1:]), api.OK)
	sends(t, f, 1, many(2*api.MaxLSPs)...)
}

func TestOpenAndCloseErrors(t *testing.T) {
	f := opened(t, 0, 0)
	is(t, "Close", f.Close(1), api.OK)
	for _, c := range []int{math.MinInt, -2, -1, 2, 3, api.MaxCircuits, math.MaxInt} {
		for _, mesh := range []int{-2, -1, 0, 1} {
			is(t, "Open", f.Open(c, mesh, nil), api.ErrArg)
		}
		is(t, "Close", f.Close(c), api.ErrArg)
		for _, ids := range [][]api.LSPID{nil, many(api.MaxLSPs)} {
			is(t, "Missing", f.Missing(c, ids), api.ErrArg)
		}
		_, e := f.Sends(c)
		is(t, "Sends", e, api.ErrArg)
		_, e = f.Sums(c)
		is(t, "Sums", e, api.ErrArg)
	}
	for c := range 2 {
		for _, mesh := range []int{math.MinInt, -5, -2} {
			is(t, "Open", f.Open(c, mesh, nil), api.ErrArg)
		}
	}
	sends(t, f, 0)
	closed(t, f, 1)
}

// P13.4

// order is that of the bytes of IDs.
func order(a, b api.LSPID) int {
	return bytes.Compare(text(a), text(b))
}

// text answers the bytes of an ID.
func text(id api.LSPID) []byte {
	return append(append([]byte{}, id.Node.Sys[:]...), id.Node.Pseudo, id.Frag)
}

func TestOrder(t *testing.T) {
	var ids []api.LSPID
	for _, name := range []api.SysID{{}, {5: 1}, {5: 128}, {4: 1}, {1}, {1, 5: 1}, {128}, {255, 255, 255, 255, 255, 255}} {
		for _, pseudo := range []byte{0, 1, 127, 128, 255} {
			for _, frag := range []byte{0, 2, 128, 255} {
				ids = append(ids, api.LSPID{Node: api.Node{Sys: name, Pseudo: pseudo}, Frag: frag})
			}
		}
	}
	if !slices.IsSortedFunc(ids, order) {
		t.Fatal("the IDs of this test are not in order")
	}
	r := rand.New(rand.NewSource(1304))
	for range 20 {
		f := made(t, 1)
		is(t, "Open", f.Open(0, 0, nil), api.OK)
		for _, i := range r.Perm(len(ids)) {
			is(t, "Took", f.Took(0, ids[i], 0), api.OK)
			is(t, "Missing", f.Missing(0, ids[i:i+1]), api.OK)
		}
		sends(t, f, 0, ids...)
		sums(t, f, 0, ids...)
		sends(t, f, 0, ids...)
	}
}

// Sums takes away of its circuit alone.
func TestSumsOfOne(t *testing.T) {
	f := opened(t, 0, 0)
	for c := range 2 {
		is(t, "Heard", f.Heard(c, number(3), 1), api.OK)
		is(t, "Heard", f.Heard(c, number(2), 1), api.OK)
	}
	sums(t, f, 0, numbers(2, 3)...)
	is(t, "Heard", f.Heard(0, number(4), 1), api.OK)
	sums(t, f, 1, numbers(2, 3)...)
	sums(t, f, 0, number(4))
}

func TestForget(t *testing.T) {
	f := opened(t, meshes...)
	is(t, "Close", f.Close(4), api.OK)
	all := numbers(1, 2, 3)
	for c := range meshes {
		if c == 4 {
			continue
		}
		for _, id := range all {
			bring(t, f, c, id, has{true, true})
		}
	}
	is(t, "Forget", f.Forget(number(9)), api.OK)
	is(t, "Forget", f.Forget(number(2)), api.OK)
	is(t, "Forget", f.Forget(number(2)), api.OK)
	for c := range meshes {
		if c == 4 {
			closed(t, f, c)
			continue
		}
		sends(t, f, c, numbers(1, 3)...)
		sums(t, f, c, numbers(1, 3)...)
	}
	is(t, "Took", f.Took(0, number(2), 1), api.OK)
	sends(t, f, 1, all...)
	is(t, "Forget", made(t, 1).Forget(number(2)), api.OK)
}

// What holds everywhere: a nil flood, P1, P2, memory.

func TestNil(t *testing.T) {
	var f *flood.Flood
	for c := range api.MaxCircuits {
		refuses(t, f, c, api.ErrNone)
		is(t, "Open", f.Open(c, 0, nil), api.ErrNone)
		is(t, "Open", f.Open(c, -1, many(api.MaxLSPs)), api.ErrNone)
		is(t, "Close", f.Close(c), api.ErrNone)
		// What applies with a lesser number.
		is(t, "Open", f.Open(c, -2, nil), api.ErrArg)
		is(t, "Open", f.Open(c, 0, many(api.MaxLSPs+1)), api.ErrLong)
		is(t, "Missing", f.Missing(c, many(api.MaxLSPs+1)), api.ErrLong)
		is(t, "Took", f.Took(c, number(1), 2), api.ErrArg)
		is(t, "Heard", f.Heard(c, number(1), -2), api.ErrArg)
	}
	is(t, "Took", f.Took(-1, number(1), 1), api.ErrNone)
	is(t, "Took", f.Took(-1, number(1), 0), api.ErrArg)
	is(t, "Forget", f.Forget(number(1)), api.ErrNone)
	for _, c := range []int{math.MinInt, -2, api.MaxCircuits, math.MaxInt} {
		refuses(t, f, c, api.ErrArg)
		is(t, "Open", f.Open(c, 0, nil), api.ErrArg)
		is(t, "Close", f.Close(c), api.ErrArg)
	}
}

func TestMemory(t *testing.T) {
	f := opened(t, 0, 0)
	spare := numbers(5, 3, 4, 9, 9, 9)
	kept := slices.Clone(spare)
	is(t, "Missing", f.Missing(0, spare[:3]), api.OK)
	is(t, "Close", f.Close(1), api.OK)
	is(t, "Open", f.Open(1, 0, spare[:3]), api.OK)
	if !slices.Equal(spare, kept) {
		t.Errorf("what was handed in became %v", spare)
	}
	clear(spare)
	want := numbers(3, 4, 5)
	for c := range 2 {
		for _, id := range want {
			is(t, "Heard", f.Heard(c, id, 1), api.OK)
			is(t, "Missing", f.Missing(c, []api.LSPID{id}), api.OK)
		}
	}
	one, _ := f.Sends(0)
	two, _ := f.Sends(0)
	three, _ := f.Sums(0)
	for _, list := range [][]api.LSPID{two, three} {
		clear(list[:cap(list)])
	}
	if !slices.Equal(one, want) {
		t.Errorf("two answers share memory: %v", one)
	}
	sends(t, f, 0, want...)
	sends(t, f, 1, want...)
	sums(t, f, 1, want...)
}

// model is a flood that is as slow as it is plain.
type model struct {
	open      []bool
	mesh      []int
	send, sum [][]api.LSPID
}

func (m *model) put(list *[]api.LSPID, id api.LSPID, there bool) {
	*list = slices.DeleteFunc(*list, func(x api.LSPID) bool { return x == id })
	if there {
		*list = append(*list, id)
		slices.SortFunc(*list, order)
	}
}

// is answers the error that a call of c answers for c's sake.
func (m *model) is(c int) api.Errno {
	switch {
	case c < 0 || c >= len(m.open):
		return api.ErrArg
	case !m.open[c]:
		return api.ErrState
	}
	return api.OK
}

func (m *model) opens(c, mesh int, ids []api.LSPID) api.Errno {
	switch e := m.is(c); {
	case e == api.ErrArg || mesh < -1:
		return api.ErrArg
	case e == api.OK:
		return api.ErrState
	}
	m.open[c], m.mesh[c] = true, mesh
	for _, id := range ids {
		m.put(&m.send[c], id, mesh != -1)
	}
	return api.OK
}

func (m *model) closes(c int) api.Errno {
	if e := m.is(c); e != api.OK {
		return e
	}
	m.open[c], m.mesh[c], m.send[c], m.sum[c] = false, 0, nil, nil
	return api.OK
}

func (m *model) took(c int, id api.LSPID, rel int) api.Errno {
	if rel < -1 || rel > 1 {
		return api.ErrArg
	}
	if e := m.is(c); e != api.OK && (c != -1 || rel != 1) {
		return e
	}
	for d := range m.open {
		switch {
		case !m.open[d]:
		case d == c:
			m.put(&m.send[d], id, rel == -1)
			m.put(&m.sum[d], id, rel != -1)
		case rel == 1:
			mesh := c >= 0 && m.mesh[d] > 0 && m.mesh[d] == m.mesh[c]
			m.put(&m.send[d], id, m.mesh[d] != -1 && !mesh)
			m.put(&m.sum[d], id, false)
		}
	}
	return api.OK
}

func (m *model) heard(c int, id api.LSPID, rel int) api.Errno {
	if rel < -1 || rel > 1 {
		return api.ErrArg
	}
	if e := m.is(c); e != api.OK {
		return e
	}
	m.put(&m.send[c], id, rel == -1)
	if rel != 0 {
		m.put(&m.sum[c], id, rel == 1)
	}
	return api.OK
}

func (m *model) missing(c int, ids []api.LSPID) api.Errno {
	if e := m.is(c); e != api.OK {
		return e
	}
	for _, id := range ids {
		m.put(&m.send[c], id, true)
	}
	return api.OK
}

func (m *model) forget(id api.LSPID) {
	for c := range m.open {
		m.put(&m.send[c], id, false)
		m.put(&m.sum[c], id, false)
	}
}

// some answers up to five IDs.
func some(r *rand.Rand) []api.LSPID {
	var ids []api.LSPID
	for range r.Intn(6) {
		ids = append(ids, number(r.Intn(6)))
	}
	return ids
}

// do has f and m told the same, and answers what both answer.
func do(r *rand.Rand, f *flood.Flood, m *model) (api.Errno, api.Errno) {
	c, id, rel, ids := r.Intn(len(m.open)+2)-1, number(r.Intn(6)), r.Intn(3)-1, some(r)
	if r.Intn(20) == 0 {
		rel = r.Intn(7) - 3
	}
	switch r.Intn(10) {
	case 0, 1:
		mesh := r.Intn(5) - 2
		return f.Open(c, mesh, ids), m.opens(c, mesh, ids)
	case 2:
		if r.Intn(3) == 0 {
			return f.Close(c), m.closes(c)
		}
		return f.Missing(c, ids), m.missing(c, ids)
	case 3:
		m.forget(id)
		return f.Forget(id), api.OK
	case 4, 5, 6:
		return f.Took(c, id, rel), m.took(c, id, rel)
	}
	return f.Heard(c, id, rel), m.heard(c, id, rel)
}

func TestAny(t *testing.T) {
	r := rand.New(rand.NewSource(1300))
	for range 300 {
		n := 1 + r.Intn(api.MaxCircuits)
		f := made(t, n)
		m := &model{make([]bool, n), make([]int, n), make([][]api.LSPID, n), make([][]api.LSPID, n)}
		for range 300 {
			if got, want := do(r, f, m); got != want {
				t.Fatalf("it answers %d; want %d", got, want)
			}
			if c := r.Intn(n); r.Intn(4) == 0 && m.open[c] {
				sums(t, f, c, m.sum[c]...)
				m.sum[c] = nil
			}
			for c := range n {
				if m.open[c] {
					sends(t, f, c, m.send[c]...)
				} else {
					closed(t, f, c)
				}
			}
		}
	}
}
