package daemon_test

import (
	"bytes"
	"math/rand"
	"slices"
	"testing"

	"waymark/adj"
	"waymark/api"
	"waymark/mac"
	"waymark/pdu"
)

// seal answers the bytes of a packet that is signed.
func seal(t *testing.T, p pdu.PDU, k api.Key) []byte {
	t.Helper()
	b, e := mac.Seal(p, k)
	if e != api.OK {
		t.Fatalf("Seal(%v): %d", p, e)
	}
	return b
}

// The bytes of a hello, ahead of and behind that somebody is seen: of a router of level 2 it tells this level alone, be the circuit of both.
func TestHelloBytes(t *testing.T) {
	d := make1(t, api.Config{Sys: sys(1), Level: api.L2, Areas: [][]byte{{0x49, 1}}, Links: []api.Link{{Level: 1}, {Level: 3}}})
	link(t, d, 1, true)
	wait(d, 2)
	out := d.Tick()
	want := []byte{0x83, 20, 1, 0, 17, 1, 0, 0, 2, 0, 0, 0, 0, 0, 1, 0, 10, 0, 32, 1, 1, 3, 2, 0x49, 1, 240, 5, 2, 0, 0, 0, 1}
	if len(out) != 1 || out[0].Circuit != 1 || !bytes.Equal(out[0].Bytes, want) {
		t.Errorf("Tick = %v; want %x", out, want)
	}
	receive(t, d, 1, write(t, hello(5, 2, api.TLV{Type: 240, Value: seen(api.Down, 9)})), api.OK)
	wait(d, 2)
	out = d.Tick()
	want = []byte{0x83, 20, 1, 0, 17, 1, 0, 0, 2, 0, 0, 0, 0, 0, 1, 0, 10, 0, 42, 1, 1, 3, 2, 0x49, 1, 240, 15, 1, 0, 0, 0, 1, 0, 0, 0, 0, 0, 5, 0, 0, 0, 7}
	if len(out) != 1 || out[0].Circuit != 1 || !bytes.Equal(out[0].Bytes, want) {
		t.Errorf("Tick = %v; want %x", out, want)
	}
	receive(t, d, 1, write(t, hello(5, 2, api.TLV{Type: 240, Value: seenOf(api.Up, 7, 1, 1)})), api.OK)
	wait(d, 2)
	want[27] = api.Up
	if out = d.Tick(); !bytes.Equal(out[0].Bytes, want) {
		t.Errorf("Tick = %v; want %x", out, want)
	}
}

// A hello tells the circuit's levels, all areas, and is signed with the first key.
func TestHelloOfEachCircuit(t *testing.T) {
	for level := 1; level <= 3; level++ {
		c := conf(level, 3)
		c.Areas = [][]byte{{0x49, 1}, {0x39, 1, 2}, {0x47}}
		c.Keys = []api.Key{{ID: 7, Secret: []byte("first")}, {ID: 8, Secret: []byte("second")}}
		for i := range 3 {
			c.Links[i].Level = i + 1
		}
		d := make1(t, c)
		for i := range 3 {
			link(t, d, i, true)
		}
		wait(d, 2)
		var circuits []int
		for _, packet := range d.Tick() {
			circuits = append(circuits, packet.Circuit)
			p := open(t, packet.Bytes, c.Keys[0])
			if p.Kind != helloKind || int(p.Circuit) != level&(packet.Circuit+1) || p.Source != (api.Node{Sys: sys(1)}) || p.Hold != api.HoldTime || int(p.Number) != packet.Circuit {
				t.Errorf("over %d goes %v", packet.Circuit, p)
			}
			want := []api.TLV{{Type: 1, Value: []byte{2, 0x49, 1, 3, 0x39, 1, 2, 1, 0x47}}, {Type: 240, Value: seen(api.Down, byte(packet.Circuit))}}
			if !same(p.TLVs, want) {
				t.Errorf("over %d goes %v; want %v", packet.Circuit, p.TLVs, want)
			}
		}
		if want := [][]int{nil, {0, 2}, {1, 2}, {0, 1, 2}}[level]; !slices.Equal(circuits, want) {
			t.Errorf("hellos go over %v; want %v", circuits, want)
		}
	}
}

// Hellos go out at each third tick, and at no other.
func TestHelloEvery(t *testing.T) {
	d := make1(t, conf(api.L1, 1))
	link(t, d, 0, true)
	for i := 1; i <= 40; i++ {
		if out := d.Tick(); (len(out) == 1) != (i%api.HelloEvery == 0) {
			t.Errorf("at %d %v goes out", i, out)
		}
	}
}

// A hello that comes is a step of the adjacency, with the time that it is.
func TestReceiveHello(t *testing.T) {
	areas := api.TLV{Type: 1, Value: []byte{2, 0x49, 1}}
	for _, c := range []struct {
		what string
		list []api.TLV
		want adj.Adjacency
		e    api.Errno
	}{
		{"nothing", nil, adj.Adjacency{State: api.Init, Level: 2}, api.OK},
		{"areas", []api.TLV{areas}, adj.Adjacency{State: api.Init, Level: 3}, api.OK},
		{"another area", []api.TLV{{Type: 1, Value: []byte{2, 0x49, 2}}}, adj.Adjacency{State: api.Init, Level: 2}, api.OK},
		{"areas in several", []api.TLV{{Type: 1, Value: []byte{1, 9}}, {Type: 77, Value: []byte{3}}, {Type: 1}, {Type: 1, Value: []byte{13, 1, 2, 3, 4, 5, 6, 7, 8, 9, 10, 11, 12, 13, 2, 0x49, 1}}}, adj.Adjacency{State: api.Init, Level: 3}, api.OK},
		{"Down", []api.TLV{areas, {Type: 240, Value: seen(api.Down, 9)}}, adj.Adjacency{State: api.Init, Level: 3}, api.OK},
		{"Up of nobody", []api.TLV{areas, {Type: 240, Value: seen(api.Up, 9)}}, adj.Adjacency{State: api.Init, Level: 3}, api.OK},
		{"Init of this side", []api.TLV{{Type: 240, Value: seenOf(api.Init, 9, 1, 0)}, areas}, adj.Adjacency{State: api.Up, Level: 3}, api.OK},
		{"Init, numbered otherwise", []api.TLV{areas, {Type: 240, Value: append([]byte{1, 9, 8, 7, 6}, seenOf(1, 0, 1, 0)[5:]...)}}, adj.Adjacency{State: api.Up, Level: 3}, api.OK},
		{"Down of this side", []api.TLV{areas, {Type: 240, Value: seenOf(api.Down, 9, 1, 0)}}, adj.Adjacency{State: api.Init, Level: 3}, api.OK},
		{"Up of this side", []api.TLV{areas, {Type: 240, Value: seenOf(api.Up, 9, 1, 0)}}, adj.Adjacency{State: api.Down}, api.OK},
		{"Init of another", []api.TLV{areas, {Type: 240, Value: seenOf(api.Init, 9, 3, 0)}}, adj.Adjacency{State: api.Down}, api.OK},
		{"Init of another circuit", []api.TLV{areas, {Type: 240, Value: seenOf(api.Init, 9, 1, 1)}}, adj.Adjacency{State: api.Down}, api.OK},
		{"the first of two", []api.TLV{{Type: 240, Value: seenOf(api.Init, 9, 1, 0)}, {Type: 240, Value: seen(api.Down, 9)}}, adj.Adjacency{State: api.Up, Level: 2}, api.OK},
		{"what counts in an LSP alone", []api.TLV{{Type: 22, Value: []byte{1}}, areas, {Type: 229, Value: []byte{1}}, {Type: 135, Value: []byte{1}}}, adj.Adjacency{State: api.Init, Level: 3}, api.OK},
		{"the first of three", []api.TLV{areas, {Type: 240, Value: seen(api.Down, 9)}, {Type: 240, Value: seenOf(api.Init, 9, 3, 0)}, {Type: 240, Value: seenOf(api.Init, 9, 1, 0)}}, adj.Adjacency{State: api.Init, Level: 3}, api.OK},
		{"the second of two too short", []api.TLV{areas, {Type: 240, Value: seenOf(api.Init, 9, 1, 0)}, {Type: 240, Value: []byte{1}}}, adj.Adjacency{State: api.Down}, api.ErrForm},
		{"the second of two of no bytes", []api.TLV{areas, {Type: 240, Value: seenOf(api.Init, 9, 1, 0)}, {Type: 240}}, adj.Adjacency{State: api.Down}, api.ErrForm},
		{"the second of two in a state of 3", []api.TLV{{Type: 240, Value: seen(api.Down, 9)}, areas, {Type: 240, Value: seen(3, 9)}}, adj.Adjacency{State: api.Down}, api.ErrForm},
		{"the second of two numbered above 255", []api.TLV{{Type: 240, Value: seen(api.Down, 9)}, {Type: 240, Value: append(seenOf(1, 0, 1, 0)[:11], 0, 0, 1, 0)}}, adj.Adjacency{State: api.Down}, api.ErrForm},
		{"the third of three too long", []api.TLV{{Type: 240, Value: seen(api.Down, 9)}, {Type: 240, Value: seen(api.Down, 9)}, {Type: 77}, {Type: 240, Value: append(seenOf(1, 0, 1, 0), 0)}}, adj.Adjacency{State: api.Down}, api.ErrForm},
		{"four areas", []api.TLV{{Type: 1, Value: []byte{1, 1, 1, 1, 1, 1}}, {Type: 1, Value: []byte{1, 1}}}, adj.Adjacency{State: api.Down}, api.ErrLong},
		{"an area that ends too early", []api.TLV{{Type: 1, Value: []byte{2, 1}}}, adj.Adjacency{State: api.Down}, api.ErrForm},
		{"an area of no bytes", []api.TLV{areas, {Type: 1, Value: []byte{0}}}, adj.Adjacency{State: api.Down}, api.ErrForm},
		{"an area of 14 bytes", []api.TLV{{Type: 1, Value: append([]byte{14}, make([]byte, 14)...)}}, adj.Adjacency{State: api.Down}, api.ErrForm},
		{"a state of 3", []api.TLV{areas, {Type: 240, Value: seen(3, 0)}}, adj.Adjacency{State: api.Down}, api.ErrForm},
		{"a state of 255", []api.TLV{areas, {Type: 240, Value: seenOf(255, 0, 1, 0)}}, adj.Adjacency{State: api.Down}, api.ErrForm},
		{"a number above 255", []api.TLV{areas, {Type: 240, Value: append(seenOf(1, 0, 1, 0)[:11], 0, 0, 1, 0)}}, adj.Adjacency{State: api.Down}, api.ErrForm},
		{"a number far above", []api.TLV{areas, {Type: 240, Value: append(seenOf(1, 0, 1, 0)[:11], 255, 255, 255, 255)}}, adj.Adjacency{State: api.Down}, api.ErrForm},
	} {
		d := make1(t, conf(api.Both, 1))
		link(t, d, 0, true)
		wait(d, 4)
		if c.want.State != api.Down {
			c.want.Peer, c.want.Number, c.want.Until = sys(2), 7, 4+9
		}
		p := hello(2, api.Both, c.list...)
		p.Hold = 9
		receive(t, d, 0, write(t, p), c.e)
		if a := adjacency(t, d, 0); a != c.want {
			t.Errorf("with %s the adjacency is %v; want %v", c.what, a, c.want)
		}
	}
}

// Of what is seen there are 5 or 15 bytes.
func TestReceiveHelloSizes(t *testing.T) {
	for size := range 20 {
		d := make1(t, conf(api.Both, 1))
		link(t, d, 0, true)
		want := api.ErrForm
		if size == 5 || size == 15 {
			want = api.OK
		}
		receive(t, d, 0, write(t, hello(2, 3, api.TLV{Type: 240, Value: append(seenOf(1, 0, 1, 0), make([]byte, 9)...)[:size]})), want)
	}
}

// The levels in common are those of the circuit, of its router, and of the other side.
func TestReceiveHelloLevels(t *testing.T) {
	for some := range 27 {
		router, circuit, theirs := 1+some%3, 1+some/3%3, 1+some/9
		c := conf(router, 1)
		c.Links[0].Level = circuit
		d := make1(t, c)
		link(t, d, 0, true)
		p := greeting(2, 0)
		p.Circuit = byte(theirs)
		want, level := api.OK, router&circuit&theirs
		switch {
		case router&circuit == 0:
			want = api.ErrState
		case level == 0:
			want = api.ErrLevel
		}
		receive(t, d, 0, write(t, p), want)
		if a := adjacency(t, d, 0); want == api.OK && (a.State != api.Up || a.Level != level) || want != api.OK && a.State != api.Down {
			t.Errorf("%d, %d, %d: %v", router, circuit, theirs, a)
		}
	}
}

// Errors of the adjacency's step; with ErrLevel it goes down.
func TestReceiveHelloErrors(t *testing.T) {
	d := make1(t, conf(api.Both, 1))
	meet(t, d, 0, 2)
	was := adjacency(t, d, 0)
	for _, c := range []struct {
		turn func(*pdu.PDU)
		e    api.Errno
	}{
		{func(p *pdu.PDU) { p.Hold = 0 }, api.ErrArg},
		{func(p *pdu.PDU) { p.Source.Sys = sys(1) }, api.ErrExists},
		{func(p *pdu.PDU) { p.TLVs = append(p.TLVs, api.TLV{Type: 1, Value: []byte{1, 1, 1, 1, 1, 1}}) }, api.ErrLong},
		{func(p *pdu.PDU) { p.TLVs[1].Value[0] = 3 }, api.ErrForm},
		{func(p *pdu.PDU) { p.TLVs = append(p.TLVs, api.TLV{Type: 240}) }, api.ErrForm},
		{func(p *pdu.PDU) { p.Hold = 0; p.TLVs = append(p.TLVs, api.TLV{Type: 240, Value: seen(3, 0)}) }, api.ErrForm},
		{func(p *pdu.PDU) { p.Hold = 0; p.TLVs[1].Value[0] = 3 }, api.ErrForm}, // the first that applies
		{func(p *pdu.PDU) { p.TLVs[0].Value[0] = 3; p.Source.Sys = sys(1) }, api.ErrForm},
	} {
		p := greeting(2, 0)
		c.turn(&p)
		receive(t, d, 0, write(t, p), c.e)
		if a := adjacency(t, d, 0); a != was {
			t.Errorf("the adjacency is %v; want %v", a, was)
		}
	}
	p := greeting(2, 0)
	p.Circuit, p.TLVs = api.L1, p.TLVs[1:] // level 1, and no area in common
	receive(t, d, 0, write(t, p), api.ErrLevel)
	isDown(t, d, 0)
	d.Tick()
	if l := held(t, d, 2, id(1, 0)); len(l.Edges[0]) != 0 {
		t.Errorf("%v is told", l)
	}
}

// The hold time runs out: the adjacency is Down at the very tick, and what was said of it is gone.
func TestExpire(t *testing.T) {
	d := make1(t, conf(api.L2, 1))
	link(t, d, 0, true)
	wait(d, 5)
	p := greeting(2, 0)
	p.Hold = 4
	receive(t, d, 0, write(t, p), api.OK)
	wait(d, 3)
	if a := adjacency(t, d, 0); a.State != api.Up || a.Until != 9 {
		t.Errorf("the adjacency is %v", a)
	}
	if l := held(t, d, 2, id(1, 0)); len(l.Edges[0]) != 1 {
		t.Errorf("%v is told", l)
	}
	d.Tick()
	isDown(t, d, 0)
	if l := held(t, d, 2, id(1, 0)); len(l.Edges[0]) != 0 || l.Seq != 3 {
		t.Errorf("%v is told", l)
	}
	receive(t, d, 0, state(t, say(2, 2, 1)), api.ErrState)
}

// Two that are linked: Init at 3, Up at 6, and at 7 they tell one another all; in the area that they share, or in none.
func TestTwoMeet(t *testing.T) {
	for level := 1; level <= 3; level++ {
		w := newWorld(t, []api.Config{conf(level, 1), conf(level, 1)}, []cable{{0, 0, 1, 0}})
		for i := 1; i <= 40; i++ {
			w.tick(nil)
			want := api.Up
			switch {
			case i < 3:
				want = api.Down
			case i < 6:
				want = api.Init
			}
			for _, d := range w.routers {
				if a := adjacency(t, d, 0); a.State != want || want == api.Up && a.Level != level {
					t.Errorf("at %d the adjacency is %v", i, a)
				}
				for lv := 1; lv <= 2; lv++ {
					count := 1
					if i >= 7 {
						count = 2
					}
					if level&lv == 0 {
						count = 0
					}
					if got := len(d.Entries(lv)); got != count {
						t.Errorf("at %d there are %d LSPs; want %d", i, got, count)
					}
				}
			}
		}
	}
}

// Whatever comes as a hello, nothing panics, and what is refused with ErrForm changes nothing.
func TestHelloOdd(t *testing.T) {
	r := rand.New(rand.NewSource(1905))
	d := make1(t, conf(api.Both, 1))
	link(t, d, 0, true)
	for range 3000 {
		value := seenOf(byte(r.Intn(4)), byte(r.Intn(3)), byte(r.Intn(3)), byte(r.Intn(2)))[:5+10*r.Intn(2)]
		list := []api.TLV{{Type: 240, Value: value}, {Type: 1, Value: []byte{2, 0x49, byte(r.Intn(3))}}}
		for range r.Intn(3) {
			v := list[r.Intn(2)].Value
			v[r.Intn(len(v))] = byte(r.Intn(4))
		}
		p := hello(byte(1+r.Intn(3)), 1+r.Intn(3), list...)
		p.Hold = r.Intn(9)
		was := adjacency(t, d, 0)
		e := d.Receive(0, write(t, p))
		if a := adjacency(t, d, 0); e != api.OK && e != api.ErrLevel && a != was || e == api.ErrLevel && a.State != api.Down {
			t.Fatalf("%d: %v became %v", e, was, a)
		}
		if r.Intn(4) == 0 {
			d.Tick()
		}
	}
}
