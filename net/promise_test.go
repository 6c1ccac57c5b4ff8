package net_test

import (
	"math/rand"
	"slices"
	"testing"

	"waymark/api"
	"waymark/net"
)

// P3 to P8, of a net: some ticks behind the last that has become of packets, cables and routers.

const quiet = 80 // ticks

// TestPromises: neighbours hold the same, the routes are those of a net in which nothing ever happened, no packet goes round.
func TestPromises(t *testing.T) {
	for seed := range 40 {
		r := rand.New(rand.NewSource(int64(seed)))
		var secret []byte
		if seed%2 == 0 {
			secret = []byte("secret")
		}
		confs, cables := someNet(r, secret)
		n, m := build(t, confs, cables), newModel(t, confs, cables)
		for range 200 {
			e := someEvent(r, m.confs, len(cables))
			does(t, n, e, m.do(e))
		}
		rest(t, n, quiet)
		agrees(t, n, true, true)
		calm := build(t, m.confs, cables)
		for k, cut := range m.cut {
			if cut {
				does(t, calm, net.Event{Kind: net.Cut, N: k}, api.OK)
			}
		}
		rest(t, calm, quiet)
		for i := range confs {
			for k := range 2 {
				if got, want := routes(t, n, i, k), routes(t, calm, i, k); !same(got, want) {
					t.Errorf("the router %d has for %d the routes\n%v; want\n%v", i, k, got, want)
				}
			}
		}
		lands(t, n, m.confs)
		if t.Failed() {
			t.Fatalf("the net %d", seed)
		}
	}
}

// walker goes over all hops that a packet may take.
type walker struct {
	t     *testing.T
	n     *net.Net
	to    api.Prefix
	state []int // 1: on the way; 2: left behind
}

// from goes on from the router i; owed: it was sent here by a route that isn't the default one.
func (x *walker) from(i int, owed bool) {
	if x.state[i] > 0 {
		if x.state[i] == 1 {
			x.t.Errorf("a packet to %v goes round at %d", x.to, i)
		}
		return
	}
	r, ok, _ := x.n.Find(i, x.to.Fam, x.to.Addr)
	if !ok {
		if owed {
			x.t.Errorf("a packet to %v goes astray at %d", x.to, i)
		}
		return
	}
	x.state[i] = 1
	for _, h := range r.Hops {
		next, _, up, e := x.n.Peer(i, h.Circuit)
		if !up || e != api.OK || h.To != sys(next) {
			x.t.Errorf("the hop %v of the router %d leads to %d, %t, %d", h, i, next, up, e)
			continue
		}
		x.from(next, owed || r.Kind != api.RouteDefault)
	}
	x.state[i] = 2
}

// lands looks at whether no packet to somebody's prefix goes round, or astray.
func lands(t *testing.T, n *net.Net, confs []api.Config) {
	t.Helper()
	for i := range confs {
		for _, c := range confs {
			for _, o := range c.Owns {
				(&walker{t: t, n: n, to: o.Prefix, state: make([]int, len(confs))}).from(i, false)
			}
		}
	}
}

// P8: who has lost all is one of all again, and is heard with what it tells then.
func TestWhoComesBackIsHeard(t *testing.T) {
	n := inARow(t, api.L2, 3)
	rest(t, n, 40)
	for i := range 5 {
		c := conf(2, api.L2, 2)
		c.Owns[0].Metric = uint32(5 + i)
		does(t, n, net.Event{Kind: net.Configure, N: 2, Conf: c}, api.OK)
		does(t, n, net.Event{Kind: net.Restart, N: 2}, api.OK)
		rest(t, n, 25)
		knows(t, n, 3, 3, 3)
		agrees(t, n, true, true)
		if r, ok, _ := n.Find(0, 4, of(2).Addr); !ok || r.Metric != 25+uint32(i) {
			t.Errorf("Find = %v, %t", r, ok)
		}
	}
}

// P7: who signs with another key isn't heard, and neither changes nor learns anything.
func TestWhoHasAnotherKeyIsNotHeard(t *testing.T) {
	confs, cables := row(api.L2, 3)
	for i := range confs {
		confs[i].Keys = []api.Key{{ID: uint16(1 + i/2), Secret: []byte("secret")}}
	}
	n := build(t, confs, cables)
	rest(t, n, 40)
	holds(t, n, api.L2, 2, 2, 1)
	knows(t, n, 2, 2, 1)
	confs[2].Keys = append(slices.Clone(confs[0].Keys), confs[2].Keys...)
	does(t, n, net.Event{Kind: net.Configure, N: 2, Conf: confs[2]}, api.OK)
	rest(t, n, 40)
	knows(t, n, 3, 3, 3)
}
