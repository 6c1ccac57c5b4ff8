package walk_test

import (
	"math"
	"slices"
	"testing"

	"waymark/api"
	"waymark/net"
	"waymark/walk"
)

// P21.1

// The chapter's examples.
func TestGoExamples(t *testing.T) {
	n := planOf(3, [2]int{0, 1}, [2]int{1, 2}).build(t)
	goes(t, n, 0, of(2), nil, walk.Arrived, 0, 1, 2)
	goes(t, n, 0, [16]byte{11}, nil, walk.Dropped, 0)
	do(t, n, net.Cut, 1)
	goes(t, n, 0, of(2), nil, walk.Dead, 0, 1)
}

func TestGoArrived(t *testing.T) {
	n := planOf(3, [2]int{0, 1}, [2]int{1, 2}).build(t)
	for _, way := range [][]int{{0}, {0, 1}, {0, 1, 2}, {1, 0}, {1}, {1, 2}, {2, 1, 0}, {2, 1}, {2}} {
		to := way[len(way)-1]
		goes(t, n, way[0], of(to), nil, walk.Arrived, way...)
		goesBy(t, n, way[0], 6, [16]byte{0xfd, byte(to + 1), 7}, []uint32{3}, walk.Arrived, way...)
	}
}

// A router's own prefix isn't the end for an address that another one's longer prefix has.
func TestGoByTheLongestPrefix(t *testing.T) {
	p := planOf(2, [2]int{0, 1})
	p.confs[0].Owns[0].Prefix = api.Prefix{Fam: 4, Len: 8, Addr: [16]byte{10}}
	n := p.build(t)
	goes(t, n, 0, of(1), nil, walk.Arrived, 0, 1)
	goes(t, n, 1, of(1), nil, walk.Arrived, 1)
	goes(t, n, 1, of(7), nil, walk.Arrived, 1, 0)
	goes(t, n, 0, of(7), nil, walk.Arrived, 0)
}

func TestGoDropped(t *testing.T) {
	n := planOf(3, [2]int{0, 1}).build(t)
	goes(t, n, 0, of(2), nil, walk.Dropped, 0)
	goes(t, n, 2, of(0), []uint32{1, 2}, walk.Dropped, 2)
	goesBy(t, n, 1, 6, of(0), nil, walk.Dropped, 1) // an address of IPv6 with IPv4's bytes
	goesBy(t, n, 1, 4, [16]byte{0xfd, 1}, nil, walk.Dropped, 1)
}

// On its way a packet may come to a router that has lost all.
func TestGoDroppedFarAway(t *testing.T) {
	n := planOf(4, [2]int{0, 1}, [2]int{1, 2}, [2]int{2, 3}).build(t)
	do(t, n, net.Restart, 2)
	goes(t, n, 0, of(3), nil, walk.Dropped, 0, 1, 2)
	goes(t, n, 0, of(2), nil, walk.Arrived, 0, 1, 2)
	goes(t, n, 3, of(0), nil, walk.Dropped, 3, 2)
}

func TestGoDead(t *testing.T) {
	n := planOf(3, [2]int{0, 1}, [2]int{1, 2}).build(t)
	do(t, n, net.Cut, 0)
	goes(t, n, 0, of(2), nil, walk.Dead, 0)
	goes(t, n, 1, of(0), nil, walk.Dead, 1)
	goes(t, n, 2, of(0), nil, walk.Dead, 2, 1)
	goes(t, n, 1, of(2), nil, walk.Arrived, 1, 2)
	// Nothing is forgotten till the next tick: a cable that is up again by then carries on.
	do(t, n, net.Mend, 0)
	goes(t, n, 0, of(2), nil, walk.Arrived, 0, 1, 2)
	do(t, n, net.Cut, 0)
	rest(n, 1)
	goes(t, n, 0, of(2), nil, walk.Dropped, 0)
	do(t, n, net.Mend, 0)
	goes(t, n, 0, of(2), nil, walk.Dropped, 0)
	rest(n, 20)
	goes(t, n, 0, of(2), nil, walk.Arrived, 0, 1, 2)
}

// Of two cables only one is cut: it depends on the pick whether the packet is dead.
func TestGoDeadByAPick(t *testing.T) {
	n := planOf(2, [2]int{0, 1}, [2]int{0, 1}).build(t)
	do(t, n, net.Cut, 0)
	goes(t, n, 0, of(1), nil, walk.Dead, 0)
	goes(t, n, 0, of(1), []uint32{1}, walk.Arrived, 0, 1)
	do(t, n, net.Cut, 1)
	goes(t, n, 0, of(1), []uint32{1}, walk.Dead, 0)
	do(t, n, net.Mend, 0)
	goes(t, n, 0, of(1), nil, walk.Arrived, 0, 1)
}

// fans answers a net in which a packet to the router 8 goes three ways on from 0, and two ways from 4 on.
func fans() *plan {
	return planOf(9, [2]int{0, 1}, [2]int{0, 2}, [2]int{0, 3}, [2]int{1, 4}, [2]int{2, 4}, [2]int{3, 4}, [2]int{4, 5}, [2]int{4, 6}, [2]int{5, 7}, [2]int{6, 7}, [2]int{7, 8})
}

// The i-th of picks tells how it goes on the i-th time, also where there is but one hop.
func TestGoPicks(t *testing.T) {
	n := fans().build(t)
	for _, c := range []struct {
		picks  []uint32
		a, b   int
		suffix string
	}{
		{nil, 1, 5, "none"},
		{[]uint32{}, 1, 5, "empty"},
		{[]uint32{0, 0, 0, 0, 0, 0, 0}, 1, 5, "more than needed"},
		{[]uint32{1}, 2, 5, "the first alone"},
		{[]uint32{2, 1}, 3, 5, "one that picks among one"},
		{[]uint32{0, 0, 1}, 1, 6, "the third alone"},
		{[]uint32{1, 7, 1, 9, 9}, 2, 6, "some beyond"},
		{[]uint32{3, 0, 2}, 1, 5, "just as many as there are"},
		{[]uint32{5, 1, 3}, 3, 6, "many"},
		{[]uint32{math.MaxUint32, 0, math.MaxUint32}, 1, 6, "the greatest"},
		{[]uint32{1 << 31, 0, 1 << 31}, 3, 5, "a great one"},
	} {
		t.Run(c.suffix, func(t *testing.T) {
			goes(t, n, 0, of(8), c.picks, walk.Arrived, 0, c.a, 4, c.b, 7, 8)
		})
	}
}

// stale answers a net in which the router 0 takes 1 for the way to 2, and 1 takes 0: it knows that the cable 1 is cut, but nobody has heard it. 3 is beyond 0.
func stale(t *testing.T) *net.Net {
	t.Helper()
	p := planOf(4, [2]int{0, 1}, [2]int{1, 2})
	p.join(0, 2, 50)
	p.join(3, 0, 10)
	n := p.build(t)
	do(t, n, net.Cut, 1)
	deafen(n)
	return n
}

func TestGoLoops(t *testing.T) {
	n := stale(t)
	goes(t, n, 0, of(2), nil, walk.Loops, 0, 1)
	goes(t, n, 1, of(2), nil, walk.Loops, 1, 0)
	goes(t, n, 3, of(2), []uint32{1, 2, 3, 4}, walk.Loops, 3, 0, 1) // not to where it began
	goes(t, n, 3, of(1), nil, walk.Arrived, 3, 0, 1)
	// A packet that would go round is dead, if the cable on the way back is cut.
	do(t, n, net.Cut, 0)
	goes(t, n, 0, of(2), nil, walk.Dead, 0)
	do(t, n, net.Mend, 0)
	rest(n, 30)
	goes(t, n, 1, of(2), nil, walk.Arrived, 1, 0, 2)
}

// P21.2

func TestSpread(t *testing.T) {
	n := planOf(3, [2]int{0, 1}, [2]int{1, 2}).build(t)
	spreads(t, n, 0, of(2), true, 0, 1, 2)
	spreads(t, n, 2, of(0), true, 0, 1, 2)
	spreads(t, n, 2, of(1), true, 1, 2)
	spreads(t, n, 1, of(1), true, 1)
	spreads(t, n, 2, [16]byte{11}, true, 2)
	do(t, n, net.Cut, 1)
	spreads(t, n, 0, of(2), true, 0, 1)
	spreads(t, n, 2, of(0), true, 2)
	if list, ok, e := walk.Spread(n, 1, 6, [16]byte{0xfd, 1}); !slices.Equal(list, []int{0, 1}) || !ok || e != api.OK {
		t.Errorf("Spread = %v, %t, %d", list, ok, e)
	}
}

// Whichever hops are picked; to come to one router by two ways isn't to come to it twice.
func TestSpreadOverAllHops(t *testing.T) {
	n := fans().build(t)
	spreads(t, n, 0, of(8), true, 0, 1, 2, 3, 4, 5, 6, 7, 8)
	spreads(t, n, 8, of(0), true, 0, 1, 2, 3, 4, 5, 6, 7, 8)
	spreads(t, n, 1, of(8), true, 1, 4, 5, 6, 7, 8)
	spreads(t, n, 2, of(3), true, 0, 2, 3, 4)
	do(t, n, net.Cut, 1) // between 0 and 2
	spreads(t, n, 0, of(8), true, 0, 1, 3, 4, 5, 6, 7, 8)
	n = planOf(2, [2]int{0, 1}, [2]int{1, 0}).build(t)
	spreads(t, n, 0, of(1), true, 0, 1)
}

func TestSpreadLoops(t *testing.T) {
	n := stale(t)
	spreads(t, n, 0, of(2), false, 0, 1)
	spreads(t, n, 1, of(2), false, 0, 1)
	spreads(t, n, 3, of(2), false, 0, 1, 3)
	spreads(t, n, 3, of(1), true, 0, 1, 3)
	spreads(t, n, 2, of(2), true, 2)
	rest(n, 30)
	spreads(t, n, 3, of(2), true, 0, 2, 3)
}

// One way that leads round is enough, though another one doesn't.
func TestSpreadLoopsOnOneWay(t *testing.T) {
	p := planOf(4, [2]int{0, 1}, [2]int{0, 2}, [2]int{1, 3}, [2]int{2, 3})
	n := p.build(t)
	do(t, n, net.Cut, 2)
	deafen(n)
	goes(t, n, 0, of(3), nil, walk.Loops, 0, 1)
	goes(t, n, 0, of(3), []uint32{1}, walk.Arrived, 0, 2, 3)
	goes(t, n, 1, of(3), []uint32{1}, walk.Loops, 1, 0)
	goes(t, n, 1, of(3), []uint32{0, 1}, walk.Arrived, 1, 0, 2, 3)
	spreads(t, n, 0, of(3), false, 0, 1, 2, 3)
	spreads(t, n, 1, of(3), false, 0, 1, 2, 3)
	spreads(t, n, 2, of(3), true, 2, 3)
}

// Errors

func fails(t *testing.T, n *net.Net, from int, fam byte, want api.Errno) {
	t.Helper()
	if trail, e := walk.Go(n, from, fam, of(0), []uint32{1}); len(trail.Routers) > 0 || trail.End != 0 || e != want {
		t.Errorf("Go(%d, %d) = %v, %d; want %d", from, fam, trail, e, want)
	}
	if list, ok, e := walk.Spread(n, from, fam, of(0)); len(list) > 0 || ok || e != want {
		t.Errorf("Spread(%d, %d) = %v, %t, %d; want %d", from, fam, list, ok, e, want)
	}
}

func TestErrors(t *testing.T) {
	n := planOf(3, [2]int{0, 1}, [2]int{1, 2}).build(t)
	for fam := range 256 {
		if fam != 4 && fam != 6 {
			fails(t, n, 0, byte(fam), api.ErrArg)
			fails(t, nil, 0, byte(fam), api.ErrArg)
		}
	}
	for _, from := range []int{-1, 3, api.MaxRouters, math.MinInt, math.MaxInt} {
		fails(t, n, from, 4, api.ErrArg)
		fails(t, n, from, 6, api.ErrArg)
		fails(t, n, from, 5, api.ErrArg)
	}
	for _, from := range []int{0, 3, api.MaxRouters - 1} {
		fails(t, nil, from, 4, api.ErrNone)
		fails(t, nil, from, 6, api.ErrNone)
	}
	fails(t, nil, -1, 4, api.ErrArg)
	fails(t, nil, api.MaxRouters, 4, api.ErrArg)
}

// The ends have the numbers that the chapter gives them.
func TestEnds(t *testing.T) {
	if ends := [...]int{walk.Arrived, walk.Dropped, walk.Dead, walk.Loops}; ends != [...]int{0, 1, 2, 3} {
		t.Errorf("the ends are %v", ends)
	}
}
