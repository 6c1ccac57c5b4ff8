package walk_test

import (
	"math/rand"
	"slices"
	"testing"

	"waymark/api"
	"waymark/net"
	"waymark/walk"
)

// way is what may become of a packet, and by which picks.
type way struct {
	picks, routers []int
	end            int
}

// ways answers all that may become of a packet to addr, by the chapter's words.
func ways(n *net.Net, at int, addr [16]byte, w way) []way {
	w.routers = append(slices.Clone(w.routers), at)
	r, found, _ := n.Find(at, 4, addr)
	switch {
	case found && r.Kind == api.RouteLocal:
		w.end = walk.Arrived
		return []way{w}
	case !found || len(r.Hops) == 0:
		w.end = walk.Dropped
		return []way{w}
	}
	var list []way
	for k, h := range r.Hops {
		x := way{picks: append(slices.Clone(w.picks), k), routers: w.routers}
		next, _, up, _ := n.Peer(at, h.Circuit)
		switch {
		case next < 0 || !up:
			x.end = walk.Dead
			list = append(list, x)
		case slices.Contains(w.routers, next):
			x.end = walk.Loops
			list = append(list, x)
		default:
			list = append(list, ways(n, next, addr, x)...)
		}
	}
	return list
}

// TestModel: each way is gone by its picks, and all of them are what Spread tells of, at whatever moment.
func TestModel(t *testing.T) {
	ends := map[int]int{}
	for seed := range 60 {
		r := rand.New(rand.NewSource(int64(seed)))
		n, p := someNet(t, r)
		for range 30 {
			disturb(n, r, p)
			for from := range p.confs {
				for to := range p.confs {
					compare(t, n, from, of(to), r, ends)
				}
			}
			if t.Failed() {
				t.Fatalf("the net %d", seed)
			}
			rest(n, r.Intn(6))
		}
	}
	for _, end := range []int{walk.Arrived, walk.Dropped, walk.Dead, walk.Loops} {
		if ends[end] == 0 {
			t.Errorf("no packet ended by %d", end)
		}
	}
}

// compare holds Go and Spread against all ways; ends counts how these ended.
func compare(t *testing.T, n *net.Net, from int, addr [16]byte, r *rand.Rand, ends map[int]int) {
	t.Helper()
	may := map[int]struct{}{}
	once := true
	for _, w := range ways(n, from, addr, way{}) {
		goes(t, n, from, addr, somePicks(n, w, addr, r), w.end, w.routers...)
		for _, i := range w.routers {
			may[i] = struct{}{}
		}
		once = once && w.end != walk.Loops
		ends[w.end]++
	}
	var list []int
	for i := range n.Count() {
		if _, is := may[i]; is {
			list = append(list, i)
		}
	}
	spreads(t, n, from, addr, once, list...)
}

// somePicks answers picks that lead the way w, some of them greater than the hops are many, and at times some beyond.
func somePicks(n *net.Net, w way, addr [16]byte, r *rand.Rand) []uint32 {
	var picks []uint32
	for i, k := range w.picks {
		route, _, _ := n.Find(w.routers[i], 4, addr)
		picks = append(picks, uint32(k+len(route.Hops)*r.Intn(1000)))
	}
	for range r.Intn(3) {
		picks = append(picks, r.Uint32())
	}
	return picks
}

// P6: at rest no packet goes round, and who has a route that isn't the default one sends nothing astray.
func TestNoPacketGoesRound(t *testing.T) {
	for seed := range 40 {
		r := rand.New(rand.NewSource(int64(seed)))
		n, p := someNet(t, r)
		for range 20 {
			disturb(n, r, p)
			rest(n, r.Intn(3))
		}
		rest(n, 80)
		for from := range p.confs {
			for to := range p.confs {
				route, found, _ := n.Find(from, 4, of(to))
				for _, w := range ways(n, from, of(to), way{}) {
					if w.end == walk.Loops || w.end == walk.Dead || found && route.Kind != api.RouteDefault && w.end != walk.Arrived {
						t.Errorf("of the net %d a packet from %d to %d ended by %d, behind %v", seed, from, to, w.end, w.routers)
					}
				}
				if _, once, _ := walk.Spread(n, from, 4, of(to)); !once {
					t.Errorf("of the net %d a packet from %d to %d may go round", seed, from, to)
				}
			}
		}
	}
}

// Memory, and P2.

// A walk changes neither the net nor the picks, and what it answers is new.
func TestWalkChangesNothing(t *testing.T) {
	n, twin := fans().build(t), fans().build(t)
	picks := []uint32{1, 2, 3, 4, 5}
	for range 3 {
		goes(t, n, 0, of(8), picks[:3:5], walk.Arrived, 0, 2, 4, 6, 7, 8)
		if !slices.Equal(picks, []uint32{1, 2, 3, 4, 5}) {
			t.Errorf("the picks became %v", picks)
		}
		spreads(t, n, 0, of(4), true, 0, 1, 2, 3, 4)
		trail, _ := walk.Go(n, 0, 4, of(8), nil)
		list, _, _ := walk.Spread(n, 0, 4, of(8))
		clear(trail.Routers[:cap(trail.Routers)])
		clear(list[:cap(list)])
	}
	for i := range n.Count() {
		for _, addr := range [][16]byte{of(0), of(8), {11}} {
			r, found, _ := n.Find(i, 4, addr)
			s, is, _ := twin.Find(i, 4, addr)
			if found != is || r.Prefix != s.Prefix || r.Metric != s.Metric || !slices.Equal(r.Hops, s.Hops) {
				t.Errorf("behind walks the router %d finds %v, %t; want %v, %t", i, r, found, s, is)
			}
		}
	}
}
