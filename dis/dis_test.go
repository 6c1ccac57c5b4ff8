package dis_test

import (
	"bytes"
	"math/rand"
	"slices"
	"testing"

	"waymark/api"
	"waymark/dis"
)

// sys is a short name.
func sys(n byte) api.SysID {
	return api.SysID{5: n}
}

// mac is a short MAC.
func mac(n byte) [6]byte {
	return [6]byte{5: n}
}

// up is a member that is Up.
func up(name, addr, priority byte) dis.Member {
	return dis.Member{Sys: sys(name), MAC: mac(addr), Priority: priority, Up: true}
}

// away is a member that isn't Up.
func away(name, addr, priority byte) dis.Member {
	m := up(name, addr, priority)
	m.Up = false
	return m
}

// many answers so many members of different names, all Up.
func many(n int) []dis.Member {
	list := make([]dis.Member, n)
	for i := range list {
		list[i] = up(byte(i), byte(i), 64)
	}
	return list
}

// elect looks at who speaks for all.
func elect(t *testing.T, list []dis.Member, want int, e api.Errno) {
	t.Helper()
	if got, f := dis.Elect(list); got != want || f != e {
		t.Errorf("Elect(%v) = %d, %d; want %d, %d", list, got, f, want, e)
	}
}

// edges looks at the names to which there are edges: nothing else may be told of them.
func edges(t *testing.T, list []dis.Member, e api.Errno, names ...api.SysID) {
	t.Helper()
	var want []api.Edge
	for _, name := range names {
		want = append(want, api.Edge{To: api.Node{Sys: name}})
	}
	if got, f := dis.Edges(list); !slices.Equal(got, want) || f != e {
		t.Errorf("Edges(%v) = %v, %d; want %v, %d", list, got, f, want, e)
	}
}

// heard looks at whether a MAC is heard.
func heard(t *testing.T, addr [6]byte, p []byte, want bool, e api.Errno) {
	t.Helper()
	if got, f := dis.Heard(addr, p); got != want || f != e {
		t.Errorf("Heard(%x, %x) = %t, %d; want %t, %d", addr, p, got, f, want, e)
	}
}

func TestExamples(t *testing.T) {
	list := []dis.Member{up(1, 1, 5), up(2, 2, 5), away(3, 3, 9)}
	elect(t, list, 1, api.OK)
	elect(t, nil, -1, api.OK)
	edges(t, list, api.OK, sys(1), sys(2))
}

// P11.1

func TestElect(t *testing.T) {
	for _, c := range []struct {
		list []dis.Member
		want int
	}{
		{[]dis.Member{}, -1},
		{[]dis.Member{away(1, 1, 127)}, -1},
		{[]dis.Member{away(1, 1, 127), away(2, 2, 0)}, -1},
		{[]dis.Member{up(0, 0, 0)}, 0},
		{[]dis.Member{away(9, 9, 9), up(0, 0, 0)}, 1},
		{[]dis.Member{up(0, 0, 0), away(9, 9, 9)}, 0},
		{[]dis.Member{up(1, 1, 126), up(2, 0, 127), up(3, 9, 125)}, 1},
		{[]dis.Member{up(9, 9, 0), up(1, 1, 1)}, 1},
		{[]dis.Member{up(1, 1, 1), up(9, 9, 0)}, 0},
		// Of equal priorities the greatest MAC, whatever the names.
		{[]dis.Member{up(9, 1, 7), up(1, 3, 7), up(5, 2, 7)}, 1},
		{[]dis.Member{up(9, 3, 7), up(1, 1, 7), up(5, 2, 7)}, 0},
		{[]dis.Member{up(9, 1, 7), up(1, 2, 7), up(5, 3, 7)}, 2},
		{[]dis.Member{up(9, 1, 7), up(1, 2, 7), away(5, 3, 7)}, 1},
		// Of equal MACs too the first one; names don't count, not even equal ones.
		{[]dis.Member{up(1, 3, 7), up(9, 3, 7)}, 0},
		{[]dis.Member{up(1, 1, 7), up(1, 3, 7), up(9, 3, 7), up(2, 3, 7)}, 1},
		{[]dis.Member{away(1, 3, 7), up(1, 3, 7), up(1, 3, 7)}, 1},
	} {
		elect(t, c.list, c.want, api.OK)
	}
}

// MACs are numbers, the highest byte first.
func TestElectByEachByte(t *testing.T) {
	for at := range 6 {
		low := dis.Member{Sys: sys(1), Up: true}
		high := dis.Member{Sys: sys(2), Up: true}
		low.MAC[at], high.MAC[at] = 0x7f, 0x80
		for behind := at + 1; behind < 6; behind++ {
			low.MAC[behind] = 0xff
		}
		elect(t, []dis.Member{low, high}, 1, api.OK)
		elect(t, []dis.Member{high, low}, 0, api.OK)
	}
}

func TestElectAny(t *testing.T) {
	r := rand.New(rand.NewSource(1101))
	for range 2000 {
		list := make([]dis.Member, r.Intn(65))
		for i := range list {
			list[i] = dis.Member{Sys: sys(byte(r.Intn(4))), MAC: [6]byte{byte(r.Intn(3)), 4: byte(r.Intn(3))}, Priority: byte(r.Intn(3)), Up: r.Intn(3) > 0}
		}
		got, e := dis.Elect(list)
		none := !slices.ContainsFunc(list, func(m dis.Member) bool { return m.Up })
		if e != api.OK || none != (got == -1) {
			t.Fatalf("Elect(%v) = %d, %d", list, got, e)
		}
		for i, m := range list {
			if !m.Up || i == got {
				continue
			}
			best := list[got]
			of := bytes.Compare(append([]byte{best.Priority}, best.MAC[:]...), append([]byte{m.Priority}, m.MAC[:]...))
			if of < 0 || of == 0 && i < got {
				t.Fatalf("Elect(%v) = %d, and not %d", list, got, i)
			}
		}
	}
}

func TestHeard(t *testing.T) {
	a, b, c := [6]byte{1, 2, 3, 4, 5, 6}, [6]byte{7, 8, 9, 10, 11, 12}, [6]byte{13, 14, 15, 16, 17, 18}
	list := slices.Concat(a[:], b[:], c[:])
	for _, addr := range [][6]byte{a, b, c} {
		heard(t, addr, list, true, api.OK)
		heard(t, addr, addr[:], true, api.OK)
		heard(t, addr, slices.Concat(addr[:], addr[:]), true, api.OK)
		heard(t, addr, nil, false, api.OK)
		heard(t, addr, []byte{}, false, api.OK)
		for at := range 6 {
			other := addr
			other[at] ^= 0x80
			heard(t, other, list, false, api.OK)
		}
	}
	// What stands across two of them is none.
	for at := 1; at < 12; at++ {
		heard(t, [6]byte(list[at:at+6]), list, at%6 == 0, api.OK)
	}
	heard(t, [6]byte{}, nil, false, api.OK)
	heard(t, [6]byte{}, list, false, api.OK)
	heard(t, [6]byte{}, make([]byte, 6), true, api.OK)
}

func TestHeardLengths(t *testing.T) {
	for n := range 1000 {
		p := make([]byte, n)
		last := [6]byte{1, 1, 1, 1, 1, 1}
		copy(p[max(n-6, 0):], last[:])
		switch {
		case n > 255:
			heard(t, last, p, false, api.ErrLong)
		case n%6 != 0:
			heard(t, last, p, false, api.ErrForm)
		default:
			heard(t, last, p, n > 0, api.OK)
		}
	}
}

// P11.2

func TestEdges(t *testing.T) {
	for _, c := range []struct {
		list  []dis.Member
		names []api.SysID
	}{
		{nil, nil},
		{[]dis.Member{away(1, 1, 1)}, nil},
		{[]dis.Member{up(0, 0, 0)}, []api.SysID{{}}},
		{[]dis.Member{up(3, 1, 9), up(1, 2, 5), up(2, 3, 7)}, []api.SysID{sys(1), sys(2), sys(3)}},
		{[]dis.Member{up(3, 1, 9), away(1, 2, 5), up(2, 3, 7)}, []api.SysID{sys(2), sys(3)}},
		{[]dis.Member{up(1, 1, 9), up(255, 1, 9), up(128, 1, 9)}, []api.SysID{sys(1), sys(128), sys(255)}},
		// Of one name one alone is Up.
		{[]dis.Member{away(1, 1, 9), up(1, 2, 9), away(1, 3, 9)}, []api.SysID{sys(1)}},
		{[]dis.Member{away(1, 1, 9), away(1, 1, 9), up(2, 1, 9)}, []api.SysID{sys(2)}},
	} {
		edges(t, c.list, api.OK, c.names...)
	}
}

// Names are in the order of their bytes, the first one first.
func TestEdgesByEachByte(t *testing.T) {
	for at := range 6 {
		var low, high api.SysID
		low[at], high[at] = 0x7f, 0x80
		for behind := at + 1; behind < 6; behind++ {
			low[behind] = 0xff
		}
		a, b := dis.Member{Sys: low, Up: true}, dis.Member{Sys: high, Up: true}
		edges(t, []dis.Member{a, b}, api.OK, low, high)
		edges(t, []dis.Member{b, a}, api.OK, low, high)
	}
}

func TestEdgesOfOneName(t *testing.T) {
	for _, list := range [][]dis.Member{
		{up(1, 1, 1), up(1, 1, 1)},
		{up(1, 1, 1), up(1, 2, 2)},
		{up(0, 1, 1), up(0, 2, 2)},
		{up(1, 1, 1), up(2, 2, 2), up(1, 3, 3)},
		{up(3, 1, 1), away(1, 1, 1), up(2, 2, 2), up(1, 3, 3), up(3, 9, 1)},
	} {
		edges(t, list, api.ErrForm)
	}
	full := many(64)
	full[63].Sys = full[0].Sys
	edges(t, full, api.ErrForm)
}

// The errors of both, and of several the one with the least number.

func TestErrors(t *testing.T) {
	for _, priority := range []byte{128, 129, 255} {
		for _, list := range [][]dis.Member{
			{up(1, 1, priority)},
			{away(1, 1, priority)},
			{up(1, 1, 127), up(2, 2, 0), away(3, 3, priority)},
			{up(1, 1, 1), up(1, 1, 1), up(2, 2, priority)},
			append(many(64), up(64, 1, priority)),
			append([]dis.Member{away(64, 1, priority)}, many(64)...),
			append(many(255), up(0, 0, priority)),
		} {
			elect(t, list, 0, api.ErrArg)
			edges(t, list, api.ErrArg)
		}
	}
	for _, n := range []int{65, 66, 250} {
		list := many(n)
		elect(t, list, 0, api.ErrLong)
		edges(t, list, api.ErrLong)
		list[1].Sys = list[0].Sys
		elect(t, list, 0, api.ErrLong)
		edges(t, list, api.ErrLong)
		for i := range list {
			list[i].Up = false
		}
		elect(t, list, 0, api.ErrLong)
		edges(t, list, api.ErrLong)
	}
}

func TestAtTheLimits(t *testing.T) {
	list := many(64)
	elect(t, list, 63, api.OK)
	list[5].Priority = 127
	elect(t, list, 5, api.OK)
	var names []api.SysID
	for _, m := range list {
		names = append(names, m.Sys)
	}
	slices.Reverse(list)
	edges(t, list, api.OK, names...)
}

// What holds everywhere: P1, P2, memory.

func TestMemory(t *testing.T) {
	list := append(make([]dis.Member, 0, 9), up(3, 1, 9), up(1, 2, 5), away(2, 3, 7))
	spare := list[:9]
	spare[5] = up(9, 9, 9)
	kept := slices.Clone(spare)
	dis.Elect(list)
	first, _ := dis.Edges(list)
	second, _ := dis.Edges(list)
	if !slices.Equal(spare, kept) {
		t.Errorf("what was handed in became %v; was %v", spare, kept)
	}
	want := slices.Clone(first)
	second = second[:cap(second)]
	for i := range second {
		second[i].Metric = 99
	}
	if !slices.Equal(first, want) {
		t.Errorf("two answers share memory: %v", first)
	}
	p := append(make([]byte, 0, 20), 0, 0, 0, 0, 0, 1, 0, 0, 0, 0, 0, 2)
	whole := bytes.Clone(p[:20])
	for n := range 13 {
		dis.Heard(mac(2), p[:n])
	}
	if !bytes.Equal(p[:20], whole) {
		t.Errorf("what was handed in became %x", p[:20])
	}
}

func TestNothingPanics(t *testing.T) {
	for _, n := range []int{0, 1, 64, 65, 1000} {
		list := make([]dis.Member, n)
		for _, priority := range []byte{0, 127, 128, 255} {
			for i := range list {
				list[i].Priority, list[i].Up = priority, i%2 == 0
			}
			dis.Elect(list)
			dis.Edges(list)
		}
		dis.Heard(mac(1), make([]byte, n))
	}
}
