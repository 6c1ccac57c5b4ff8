package net_test

import (
	"math"
	"testing"

	"waymark/api"
	"waymark/net"
)

// P20.1: Tick's fates.

// At the tick 3 two routers' hellos cross; at the tick 7 there are, of the first one and then of the second one, a CSNP and its LSP.
const (
	hello0 = 0
	hello1 = 1
	lsp0   = 1
	lsp1   = 3
)

// fated answers fates with the How of these places, and the How other at all others.
func fated(other byte, how map[int]byte) []net.Fate {
	fates := all(other)
	for i, h := range how {
		fates[i].How = h
	}
	return fates
}

// aheadOf7 answers two routers that tell one another all at the next tick.
func aheadOf7(t *testing.T) *net.Net {
	t.Helper()
	n := inARow(t, api.L2, 2)
	rest(t, n, 6)
	return n
}

// lifeOf answers the Life that an LSP of the router i has with the router at.
func lifeOf(t *testing.T, n *net.Net, at, i int) int {
	t.Helper()
	for _, entry := range entries(t, n, at, api.L2) {
		if entry.ID == id(i, 0) {
			return entry.Life
		}
	}
	return -1
}

func TestFates(t *testing.T) {
	for _, x := range []struct {
		how  byte
		want int // what the other one holds then
	}{{0, 2}, {1, 1}, {2, 2}, {3, 1}, {4, 2}, {5, 2}, {6, 1}, {8, 1}, {250, 2}, {251, 1}, {253, 1}, {255, 2}} {
		n := aheadOf7(t)
		tick(t, n, fated(0, map[int]byte{lsp0: x.how})...)
		holds(t, n, api.L2, 2, x.want)
		n = aheadOf7(t)
		tick(t, n, fated(1, map[int]byte{lsp1: x.how})...)
		holds(t, n, api.L2, x.want, 1)
	}
}

// Beyond the fates that there are all comes.
func TestFatesAreFew(t *testing.T) {
	n := aheadOf7(t)
	tick(t, n, net.Fate{}, net.Fate{How: 1})
	holds(t, n, api.L2, 2, 1)
	n = aheadOf7(t)
	tick(t, n, net.Fate{How: 1})
	holds(t, n, api.L2, 2, 2)
}

// What is lost never comes: whose hellos are all lost isn't heard.
func TestLost(t *testing.T) {
	n := inARow(t, api.L2, 2)
	for i := range 40 {
		tick(t, n, net.Fate{How: 1})
		if seq(t, n, 1) != 1 {
			t.Errorf("the second router hears the first one at %d", i+1)
		}
	}
}

// What is held back comes at the next tick, ahead of all else, in its order; held back again, at the one behind that.
func TestHeldBack(t *testing.T) {
	n := aheadOf7(t)
	tick(t, n, fated(1, map[int]byte{lsp0: 3, lsp1: 3})...)
	holds(t, n, api.L2, 1, 1)
	tick(t, n, fated(1, map[int]byte{0: 0})...)
	holds(t, n, api.L2, 1, 2)
	n = aheadOf7(t)
	tick(t, n, fated(1, map[int]byte{lsp0: 3, lsp1: 3})...)
	tick(t, n, fated(1, map[int]byte{1: 0})...)
	holds(t, n, api.L2, 2, 1)
	n = aheadOf7(t)
	tick(t, n, fated(1, map[int]byte{lsp0: 3, lsp1: 3})...)
	for range 4 {
		tick(t, n, fated(1, map[int]byte{0: 3, 1: 8})...)
		holds(t, n, api.L2, 1, 1)
	}
	tick(t, n, fated(1, map[int]byte{0: 3, 1: 0})...)
	holds(t, n, api.L2, 2, 1)
	tick(t, n, all(1)...)
	holds(t, n, api.L2, 2, 1)
}

// What is held back is as it was when it was sent.
func TestHeldBackIsAsItWas(t *testing.T) {
	n := aheadOf7(t)
	tick(t, n, fated(1, map[int]byte{lsp0: 3})...)
	life := lifeOf(t, n, 0, 0)
	for range 5 {
		tick(t, n, fated(1, map[int]byte{0: 3})...)
	}
	tick(t, n, fated(1, map[int]byte{0: 0})...)
	if got := lifeOf(t, n, 1, 0); got != life || lifeOf(t, n, 0, 0) != life-6 {
		t.Errorf("it has the Life %d; want %d", got, life)
	}
}

// A tick holds what crosses it behind what was held back: the places of the fates go on.
func TestHeldBackTakesPlaces(t *testing.T) {
	n := aheadOf7(t)
	tick(t, n, fated(1, map[int]byte{0: 3})...) // the first one's CSNP
	tick(t, n, fated(1, map[int]byte{0: 0, 1: 0})...)
	holds(t, n, api.L2, 1, 2) // at the tick 8 the first one sends its LSP, and nothing else
	n = aheadOf7(t)
	tick(t, n, fated(1, map[int]byte{0: 3})...)
	tick(t, n, fated(1, map[int]byte{0: 0})...)
	holds(t, n, api.L2, 1, 1)
}

// A hello that is held back comes to whom the cable leads to when it crosses, be the cable cut and mended between, or the router that has sent it made anew.
func TestHeldBackOverWhatIsMended(t *testing.T) {
	for _, events := range [][]net.Event{
		nil,
		{{Kind: net.Cut}, {Kind: net.Mend}},
		{{Kind: net.Restart}},
		{{Kind: net.Restart, N: 1}},
	} {
		n := inARow(t, api.L2, 2)
		rest(t, n, 2)
		tick(t, n, fated(1, map[int]byte{hello0: 3})...)
		for _, e := range events {
			does(t, n, e, api.OK)
		}
		// Who was made anew has a time of its own: it says its hello some ticks later.
		for i := 4; i <= 8; i++ {
			tick(t, n)
		}
		twin := inARow(t, api.L2, 2)
		rest(t, twin, 2)
		tick(t, twin, all(1)...)
		for _, e := range events {
			does(t, twin, e, api.OK)
		}
		for i := 4; i <= 8; i++ {
			tick(t, twin)
		}
		if seq(t, n, 0) == seq(t, twin, 0) && seq(t, n, 1) == seq(t, twin, 1) {
			t.Errorf("with %v it is as if it hadn't come", events)
		}
	}
}

// Over a cable that isn't up when it crosses it is lost, uses its fate all the same, and isn't held back.
func TestHeldBackOverWhatIsCut(t *testing.T) {
	n := inARow(t, api.L2, 2)
	rest(t, n, 2)
	tick(t, n, fated(1, map[int]byte{hello0: 3})...)
	does(t, n, net.Event{Kind: net.Cut}, api.OK)
	tick(t, n, all(3)...)
	does(t, n, net.Event{Kind: net.Mend}, api.OK)
	rest(t, n, 4)
	if seq(t, n, 0) != 1 || seq(t, n, 1) != 1 {
		t.Error("it came")
	}
	rest(t, n, 2)
	if seq(t, n, 0) != 2 || seq(t, n, 1) != 2 {
		t.Error("they didn't meet")
	}
	for how, want := range []uint32{2, 1} {
		n = inARow(t, api.L2, 3)
		rest(t, n, 2)
		tick(t, n, fated(1, map[int]byte{0: 3, 2: 3})...) // the hellos of the first one, and of the second one to the third
		does(t, n, net.Event{Kind: net.Cut}, api.OK)
		tick(t, n, net.Fate{}, net.Fate{How: byte(how)})
		rest(t, n, 3)
		if s := seq(t, n, 1); s != want {
			t.Errorf("with the fate %d the second router tells %d; want %d", how, s, want)
		}
	}
}

// A byte is turned at a place that is counted from 0, again and again round the packet.
func TestTurned(t *testing.T) {
	whole := aheadOf7(t)
	tick(t, whole)
	life := lifeOf(t, whole, 1, 0)
	b, _ := whole.LSP(0, api.L2, id(0, 0))
	size := len(b)
	low := 11 // where the Life's lower byte stands, which no check sum holds
	for _, x := range []struct {
		at   int
		by   byte
		want int
	}{
		{low, 1, life ^ 1}, {low, 0x80, life ^ 0x80}, {low, 0, life}, {low - 1, 1, life ^ 0x100},
		{low + size, 2, life ^ 2}, {low + 1000*size, 4, life ^ 4}, {low + size - 1, 1, life ^ 0x100},
		{low + 1, 1, -1}, {0, 1, -1}, {size, 1, -1}, {-1, 1, -1}, {-size + low, 1, -1}, {math.MinInt, 1, -1},
		{-1, 0, life}, {math.MaxInt / size * size, 0xff, -1}, {math.MaxInt, 0, life},
	} {
		n := aheadOf7(t)
		fates := all(0)
		fates[lsp0] = net.Fate{How: 4, At: x.at, By: x.by}
		tick(t, n, fates...)
		if got := lifeOf(t, n, 1, 0); got != x.want {
			t.Errorf("turned at %d by %x it has the Life %d; want %d", x.at, x.by, got, x.want)
		}
		holds(t, n, api.L2, 2)
		if got := lifeOf(t, n, 0, 0); got != life {
			t.Errorf("turned at %d by %x it has with its own router the Life %d", x.at, x.by, got)
		}
	}
}

// At and By count only where a packet is turned.
func TestAtAndByAreForTurning(t *testing.T) {
	for how := range byte(4) {
		n, twin := aheadOf7(t), aheadOf7(t)
		fates, others := all(how), all(how)
		for i := range fates {
			fates[i].At, fates[i].By = 11, 0xff
		}
		for range 3 {
			tick(t, n, fates...)
			tick(t, twin, others...)
			alike(t, n, twin)
		}
	}
}

// What comes twice says nothing new the second time: only in here it is seen how often it comes.
func TestTimes(t *testing.T) {
	for how := range 256 {
		want := []int{1, 0, 2, 0, 1}[how%5]
		if got := net.Times(net.Fate{How: byte(how), At: 3, By: 5}); got != want {
			t.Errorf("with How %d it comes %d times; want %d", how, got, want)
		}
	}
}

// Packets that come twice make a net go on as others do.
func TestTwice(t *testing.T) {
	n, twin := inARow(t, api.Both, 4), inARow(t, api.Both, 4)
	for range 40 {
		tick(t, n, all(2)...)
		tick(t, twin)
		alike(t, n, twin)
	}
	agrees(t, n, true, true)
}
