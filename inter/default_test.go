package inter_test

import (
	"math"
	"slices"
	"testing"

	"waymark/api"
	"waymark/inter"
)

// defaultIs looks at what Default answers of IPv4 from the router 1 on; no hops: there is none.
func defaultIs(t *testing.T, list []api.LSP, near []inter.Near, metric uint32, hops ...api.Hop) {
	t.Helper()
	want := api.Route{}
	if len(hops) > 0 {
		want = route("0.0.0.0/0", api.RouteDefault, metric, hops...)
	}
	turned := slices.Clone(list)
	slices.Reverse(turned)
	for range 2 {
		if got, ok, e := inter.Default(sys(1), 0, list, near); !sameRoute(got, want) || ok != (len(hops) > 0) || e != api.OK {
			t.Errorf("Default = %v, %t, %d; want %v", got, ok, e, want)
		}
		list = turned
	}
}

// attached makes routers tell that they are attached, in the topology 0.
func (l tells) attached(routers ...int) tells {
	for _, n := range routers {
		l.at(router(n)).Attached[0] = true
	}
	return l
}

// P16.2

func TestDefault(t *testing.T) {
	defaultIs(t, square().attached(2), corners(), 10, hop(0, 2))
	defaultIs(t, square().attached(4), corners(), 15, hop(0, 2), hop(1, 3))
	defaultIs(t, square().attached(3, 4), corners(), 10, hop(1, 3))
	defaultIs(t, square().attached(2, 3, 4), corners(), 10, hop(0, 2), hop(1, 3))
	defaultIs(t, square().attached(2, 3), []inter.Near{over(4, 3, 8), over(5, 2, 7), over(3, 2, 7), over(2, 2, 9)}, 10, hop(3, 2), hop(4, 3), hop(5, 2))
	// Two of one metric by one hop: it stands there once.
	l := square().attached(4, 5)
	l.link(router(2), router(5), 5)
	defaultIs(t, l, corners(), 15, hop(0, 2), hop(1, 3))
	// One that is as near as another, over a link of 0.
	l = square().attached(5)
	l.link(router(2), router(5), 0)
	l.attached(2)
	defaultIs(t, l, corners(), 10, hop(0, 2))
}

func TestNoDefault(t *testing.T) {
	defaultIs(t, nil, nil, 0)
	defaultIs(t, square(), corners(), 0)
	defaultIs(t, square().attached(1), corners(), 0) // the root itself
	defaultIs(t, square().attached(7), corners(), 0) // there, but not reached
	defaultIs(t, square().attached(2)[1:], corners(), 0)
	defaultIs(t, square().attached(2), nil, 0)
	defaultIs(t, square().attached(2), []inter.Near{over(0, 3, 1)}, 0)
	defaultIs(t, square().attached(2), []inter.Near{over(0, 2, 0), over(0, 2, api.MaxLink), over(0, 2, math.MaxUint32)}, 0)
}

// The nearest ones count: that no hop leads to them makes no other one nearest.
func TestDefaultWithoutHops(t *testing.T) {
	defaultIs(t, square().attached(2, 4), []inter.Near{over(1, 3, 10)}, 0)
	defaultIs(t, square().attached(2, 3), []inter.Near{over(1, 3, 10)}, 10, hop(1, 3))
	defaultIs(t, square().attached(4), []inter.Near{over(1, 3, 10)}, 15, hop(1, 3))
}

// It is a router's fragment 0 that says whether it is attached, and no purge.
func TestWhoIsAttached(t *testing.T) {
	said := frag(2, 1)
	said.Attached = [2]bool{true, true}
	defaultIs(t, append(square(), said), corners(), 0)
	said.ID.Frag = 0
	defaultIs(t, append(square(), purged(said)), corners(), 0)
	said.ID.Node.Pseudo = 1
	defaultIs(t, append(square(), said), corners(), 0)
	l := square().attached(2)
	l = append(l, frag(2, 1), purged(frag(2, 0)))
	defaultIs(t, l, corners(), 10, hop(0, 2))
	l.at(router(2)).Life = -1
	defaultIs(t, l, corners(), 10, hop(0, 2))
	// A router that is overloaded is reached, too.
	l.at(router(2)).Overload = true
	defaultIs(t, l, corners(), 10, hop(0, 2))
}

func TestDefaultOfIPv6(t *testing.T) {
	l := square().attached(2)
	l.at(router(4)).Attached[1] = true
	near := []inter.Near{
		{Circuit: 0, To: sys(2), Metric: [2]uint32{1, 0}},
		{Circuit: 1, To: sys(2), Metric: [2]uint32{2, 2}},
		{Circuit: 2, To: sys(3), Metric: [2]uint32{0, api.MaxLink}},
	}
	defaultIs(t, l, near, 10, hop(0, 2))
	got, ok, e := inter.Default(sys(1), 1, l, near)
	if want := route("::/0", api.RouteDefault, 15, hop(1, 2)); !sameRoute(got, want) || !ok || e != api.OK {
		t.Errorf("Default of IPv6 = %v, %t, %d; want %v", got, ok, e, want)
	}
}

func TestDefaultErrors(t *testing.T) {
	l := square().attached(2)
	fails := func(topology int, list []api.LSP, near []inter.Near, want api.Errno) {
		t.Helper()
		got, ok, e := inter.Default(sys(1), topology, list, near)
		if e != want || e != api.OK && (ok || !sameRoute(got, api.Route{})) {
			t.Errorf("Default(%d, %d LSPs, %d Nears) = %v, %t, %d; want %d", topology, len(list), len(near), got, ok, e, want)
		}
	}
	twice := append(slices.Clone(l), frag(2, 0))
	many := slices.Repeat(l, api.MaxLSPs)
	nears := make([]inter.Near, 257)
	for _, topology := range []int{math.MinInt, -1, 2, math.MaxInt} {
		fails(topology, l, corners(), api.ErrArg)
		fails(topology, many, nears, api.ErrArg)
		fails(topology, nil, nears, api.ErrArg)
	}
	fails(0, many, corners(), api.ErrLong)
	fails(0, nil, nears, api.ErrLong)
	fails(0, twice, nears, api.ErrLong)
	fails(0, l, nears[:256], api.OK)
	fails(0, twice, corners(), api.ErrForm)
	fails(1, twice, corners(), api.ErrForm)
	// No form is asked of prefixes here.
	fails(0, append(slices.Clone(l), badReach(0)...), corners(), api.OK)
}

// attachedIs looks at what Attached answers from the router 1 on, in the topology 0.
func attachedIs(t *testing.T, list []api.LSP, want bool, areas ...[]byte) {
	t.Helper()
	if got, e := inter.Attached(sys(1), 0, list, areas); got != want || e != api.OK {
		t.Errorf("Attached(%v, %v) = %t, %d; want %t", list, areas, got, e, want)
	}
}

// in makes a router tell areas.
func (l tells) in(n int, areas ...[]byte) tells {
	l.at(router(n)).Areas = areas
	return l
}

func TestAttached(t *testing.T) {
	a, b, c := []byte{0x49, 1}, []byte{0x49, 2}, []byte{0x49}
	attachedIs(t, square().in(2, a), true, b)
	attachedIs(t, square().in(2, a), false, a)
	attachedIs(t, square().in(2, a), false, b, a, c)
	attachedIs(t, square().in(2, a), true)
	attachedIs(t, square().in(2, a, b), true, a)
	attachedIs(t, square().in(2, b, a), true, a)
	attachedIs(t, square().in(2, a, b), false, b, a)
	attachedIs(t, square().in(4, a).in(2, b).in(3, b), true, b)
	attachedIs(t, square().in(4, b).in(2, b).in(3, b), false, b)
	// The bytes count, and how many there are.
	attachedIs(t, square().in(2, c), true, a)
	attachedIs(t, square().in(2, a), true, c)
	attachedIs(t, square().in(2, []byte{0x49, 0}), true, c)
	attachedIs(t, square().in(2, []byte{}), true, c)
	attachedIs(t, square().in(2, nil), false, []byte{})
	attachedIs(t, square().in(2, make([]byte, 300)), true, make([]byte, 301))
	// The root's own areas aren't asked, nor those of whom it doesn't reach.
	attachedIs(t, square(), false)
	attachedIs(t, nil, false)
	attachedIs(t, square().in(1, a), false, b)
	attachedIs(t, square().in(7, a), false, b)
	attachedIs(t, square().in(2, a)[1:], false, b)
}

// All fragments of a router count; purges and pseudonodes don't.
func TestAttachedFragments(t *testing.T) {
	more := frag(2, 200)
	more.Areas = [][]byte{{1}}
	attachedIs(t, append(square(), more), true, []byte{2})
	attachedIs(t, append(square(), purged(more)), false, []byte{2})
	more.Life = -1
	attachedIs(t, append(square(), more), true, []byte{2})
	more.ID.Node.Pseudo = 1
	attachedIs(t, append(square(), more), false, []byte{2})
	more.ID.Frag = 0
	attachedIs(t, append(square(), more), false, []byte{2})
}

// The topology says who is reached.
func TestAttachedOfIPv6(t *testing.T) {
	l := square().in(2, []byte{1})
	l.at(router(1)).Edges[1] = nil
	attachedIs(t, l, true, []byte{2})
	if got, e := inter.Attached(sys(1), 1, l, [][]byte{{2}}); got || e != api.OK {
		t.Errorf("Attached of IPv6 = %t, %d", got, e)
	}
	l.at(router(1)).Edges[0], l.at(router(1)).Edges[1] = nil, l.at(router(1)).Edges[0]
	attachedIs(t, l, false, []byte{2})
	if got, e := inter.Attached(sys(1), 1, l, [][]byte{{2}}); !got || e != api.OK {
		t.Errorf("Attached of IPv6 = %t, %d", got, e)
	}
}

func TestAttachedErrors(t *testing.T) {
	l := square().in(2, []byte{1})
	fails := func(topology int, list []api.LSP, want api.Errno) {
		t.Helper()
		if got, e := inter.Attached(sys(1), topology, list, nil); e != want || got != (want == api.OK) {
			t.Errorf("Attached(%d, %d LSPs) = %t, %d; want %d", topology, len(list), got, e, want)
		}
	}
	twice := append(slices.Clone(l), frag(2, 0))
	many := slices.Repeat(l, api.MaxLSPs)
	for _, topology := range []int{math.MinInt, -1, 2, math.MaxInt} {
		fails(topology, l, api.ErrArg)
		fails(topology, many, api.ErrArg)
		fails(topology, twice, api.ErrArg)
	}
	fails(0, many, api.ErrLong)
	fails(0, twice, api.ErrForm)
	fails(1, twice, api.ErrForm)
	fails(0, append(slices.Clone(l), badReach(0)...), api.OK)
	// As many areas as you like.
	if got, e := inter.Attached(sys(1), 0, l, slices.Repeat([][]byte{{2}}, 100000)); !got || e != api.OK {
		t.Error(got, e)
	}
}
