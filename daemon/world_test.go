package daemon_test

import (
	"math/rand"
	"slices"
	"testing"

	"waymark/api"
	"waymark/daemon"
)

// cable joins a circuit of one router with a circuit of another one.
type cable struct{ a, ca, b, cb int }

// crossing is bytes that go to a circuit of a router.
type crossing struct {
	cable, to, circuit int
	bytes              []byte
}

// world is routers and the cables between them.
type world struct {
	t       *testing.T
	confs   []api.Config
	routers []*daemon.Daemon
	cables  []cable
	cut     []bool
	late    []crossing
}

// newWorld answers a world of routers with the names 1 and on, linked by the cables.
func newWorld(t *testing.T, confs []api.Config, cables []cable) *world {
	t.Helper()
	w := &world{t: t, cables: cables, cut: make([]bool, len(cables))}
	for i, c := range confs {
		c.Sys = sys(byte(i + 1))
		w.confs = append(w.confs, c)
		w.routers = append(w.routers, nil)
		w.restart(i)
	}
	return w
}

// restart makes the router i anew; it is linked over the cables that are up.
func (w *world) restart(i int) {
	w.routers[i] = make1(w.t, w.confs[i])
	for k, c := range w.cables {
		if c.a == i && !w.cut[k] {
			link(w.t, w.routers[i], c.ca, true)
		}
		if c.b == i && !w.cut[k] {
			link(w.t, w.routers[i], c.cb, true)
		}
	}
}

// join links the ends of a cable, or unlinks them.
func (w *world) join(k int, up bool) {
	c := w.cables[k]
	link(w.t, w.routers[c.a], c.ca, up)
	link(w.t, w.routers[c.b], c.cb, up)
}

// set cuts a cable, or mends it.
func (w *world) set(k int, up bool) {
	if w.cut[k] == up {
		w.cut[k] = !up
		w.join(k, up)
	}
}

// tick lets all routers tick, and what goes out cross; r tells what becomes of a packet (nil: it comes).
func (w *world) tick(r *rand.Rand) {
	crossings := w.late
	w.late = nil
	for i, d := range w.routers {
		for _, p := range d.Tick() {
			for k, c := range w.cables {
				switch {
				case c.a == i && c.ca == p.Circuit:
					crossings = append(crossings, crossing{k, c.b, c.cb, p.Bytes})
				case c.b == i && c.cb == p.Circuit:
					crossings = append(crossings, crossing{k, c.a, c.ca, p.Bytes})
				}
			}
		}
	}
	for _, x := range crossings {
		fate := 9
		if r != nil {
			fate = r.Intn(10)
		}
		w.cross(x, fate, r)
	}
}

// cross makes a packet come, unless it is lost or held back.
func (w *world) cross(x crossing, fate int, r *rand.Rand) {
	if w.cut[x.cable] {
		return
	}
	d := w.routers[x.to]
	switch fate {
	case 0:
		return
	case 1:
		d.Receive(x.circuit, x.bytes)
	case 2:
		w.late = append(w.late, x)
		return
	case 3:
		x.bytes = slices.Clone(x.bytes)
		x.bytes[r.Intn(len(x.bytes))] ^= byte(1 << r.Intn(8))
	}
	d.Receive(x.circuit, x.bytes)
}

// rest lets so many quiet ticks go by.
func (w *world) rest(ticks int) {
	for range ticks {
		w.tick(nil)
	}
}
