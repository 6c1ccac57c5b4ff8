package daemon_test

import (
	"bytes"
	"math"
	"math/rand"
	"slices"
	"testing"

	"waymark/api"
	"waymark/daemon"
	"waymark/pdu"
)

// P19.3: what comes.

// The first of the errors that applies is answered.
func TestReceiveErrors(t *testing.T) {
	c := conf(api.L2, 3)
	c.Links[1].Level = api.L1
	d := make1(t, c)
	link(t, d, 1, true)
	meet(t, d, 2, 2)
	good := write(t, greeting(2, 0))
	for _, c := range []int{-1, 3, 8, math.MinInt, math.MaxInt} {
		receive(t, d, c, good, api.ErrArg)
		receive(t, d, c, nil, api.ErrArg)
	}
	for _, b := range [][]byte{nil, good, {1}, make([]byte, 9999)} {
		receive(t, d, 0, b, api.ErrState) // not linked
		receive(t, d, 1, b, api.ErrState) // not used
	}
	receive(t, d, 2, nil, api.ErrForm)
	receive(t, d, 2, good[:len(good)-1], api.ErrForm)
	receive(t, d, 2, make([]byte, api.MaxPDU+1), api.ErrLong)
	wrong := state(t, say(2, 2, 1, 1))
	wrong[20] ^= 1
	receive(t, d, 2, wrong, api.ErrSum)
	for _, kind := range []byte{15, 16} {
		receive(t, d, 2, write(t, pdu.PDU{Kind: kind, Circuit: 3, Source: api.Node{Sys: sys(2)}, Hold: 9}), api.ErrState)
	}
}

// Who isn't open at the level isn't heard; a router of one level doesn't hear of the other.
func TestReceiveStates(t *testing.T) {
	for level := 1; level <= 3; level++ {
		for theirs := 1; theirs <= 3; theirs++ {
			d := make1(t, conf(level, 1))
			link(t, d, 0, true)
			p := greeting(2, 0)
			p.Circuit = byte(theirs)
			packets := [3][][]byte{}
			for lv := 1; lv <= 2; lv++ {
				packets[lv] = [][]byte{state(t, say(lv, 2, 1)), write(t, sum(t, byte(23+lv))), write(t, sum(t, byte(25+lv)))}
			}
			look := func(open int) {
				t.Helper()
				for lv := 1; lv <= 2; lv++ {
					for _, b := range packets[lv] {
						want := api.OK
						if open&lv == 0 {
							want = api.ErrState
						}
						receive(t, d, 0, b, want)
					}
				}
			}
			look(0)
			d.Receive(0, write(t, hello(2, theirs, p.TLVs[0])))
			look(0) // Init at most
			d.Receive(0, write(t, p))
			look(level & theirs)
			link(t, d, 0, true)
			look(0)
		}
	}
}

// An LSP that comes is held if it is newer, and goes on to the others; the sender hears that it came.
func TestReceiveLSP(t *testing.T) {
	for level := api.L1; level <= api.L2; level++ {
		d := make1(t, conf(level, 3))
		for c := range 3 {
			meet(t, d, c, byte(2+c))
		}
		d.Tick() // all of them heard all
		two, one, three := say(level, 9, 2, 8), say(level, 9, 1), say(level, 9, 3)
		settleFlood(t, d, level)
		if out := d.Tick(); len(ofLSPs(t, out)) != 0 {
			t.Fatalf("%v is to send yet", out)
		}
		hears(t, d, 0, two)
		holdsAs(t, d, two)
		for range 2 { // till they are heard
			out := d.Tick()
			b, _ := d.LSP(level, two.ID)
			if len(ofLSPs(t, out)) != 2 || !hasBytes(over(out, 1), b) || !hasBytes(over(out, 2), b) {
				t.Errorf("%v goes out", out)
			}
		}
		hears(t, d, 1, two)
		out := d.Tick()
		if !slices.Equal(ofLSPs(t, out), []int{2}) {
			t.Errorf("%v goes out", out)
		}
		// An older one: the sender gets what is held.
		hears(t, d, 1, one)
		if out = d.Tick(); !slices.Equal(ofLSPs(t, out), []int{1, 2}) {
			t.Errorf("%v goes out", out)
		}
		holdsLife(t, d, two, api.MaxAge-4)
		hears(t, d, 2, three)
		holdsAs(t, d, three)
		if out = d.Tick(); !slices.Equal(ofLSPs(t, out), []int{0, 1}) {
			t.Errorf("%v goes out", out)
		}
	}
}

// settleFlood makes all neighbours sum up all that d holds.
func settleFlood(t *testing.T, d *daemon.Daemon, level int) {
	t.Helper()
	for c := range 3 {
		receive(t, d, c, write(t, sum(t, byte(25+level), d.Entries(level)...)), api.OK)
	}
}

// ofLSPs answers the circuits over which LSPs go, as often as they do.
func ofLSPs(t *testing.T, list []daemon.Packet) []int {
	t.Helper()
	var circuits []int
	for _, x := range list {
		if kind := x.Bytes[4]; kind == 18 || kind == 20 {
			circuits = append(circuits, x.Circuit)
		}
	}
	return circuits
}

// What comes is summed up for the sender, once, behind the LSPs.
func TestReceiveLSPIsSummed(t *testing.T) {
	d := make1(t, conf(api.L2, 2))
	meet(t, d, 0, 2)
	meet(t, d, 1, 3)
	wait(d, 1)
	settle := func(c int) { receive(t, d, c, write(t, sum(t, psnp2, d.Entries(2)...)), api.OK) }
	settle(0)
	settle(1)
	hears(t, d, 0, say(2, 4, 5, 2), say(2, 3, 7, 1))
	want := []api.Entry{d.Entries(2)[1], d.Entries(2)[2]}
	for i := range want {
		want[i].Life--
	}
	list := tick(t, d)
	if sums := ofKind(list, psnp2); len(sums) != 1 || sums[0].Source != (api.Node{Sys: sys(1)}) || !same(entriesOf(t, sums[0]), want) {
		t.Errorf("%v goes out; want %v", sums, want)
	}
	if list = tick(t, d); len(ofKind(list, psnp2)) != 0 {
		t.Errorf("%v goes out", list)
	}
	hears(t, d, 0, say(2, 3, 7, 1)) // the same again
	list = tick(t, d)
	if sums := ofKind(list, psnp2); len(sums) != 1 || len(entriesOf(t, sums[0])) != 1 {
		t.Errorf("%v goes out", list)
	}
}

// What can't be read isn't held, nor what the store refuses; with an error nothing has changed.
func TestReceiveLSPErrors(t *testing.T) {
	d := make1(t, conf(api.L2, 1))
	meet(t, d, 0, 2)
	d.Tick()
	was := d.Entries(2)
	for _, v := range []api.TLV{{Type: 1, Value: []byte{3, 1}}, {Type: 22, Value: []byte{1}}, {Type: 135, Value: []byte{0, 0, 0, 1, 33}}, {Type: 229, Value: []byte{1}}, {Type: 237, Value: []byte{0}}} {
		p := pdu.PDU{Kind: 20, Life: 9, ID: id(2, 0), Seq: 1, Bits: 3, TLVs: []api.TLV{v}}
		receive(t, d, 0, write(t, p), api.ErrForm)
	}
	receive(t, d, 0, state(t, say(1, 2, 1)), api.ErrState)
	if !slices.Equal(d.Entries(2), was) {
		t.Errorf("Entries = %v; want %v", d.Entries(2), was)
	}
	// Types that aren't known are passed on as they are.
	b := write(t, pdu.PDU{Kind: 20, Life: 9, ID: id(2, 0), Seq: 1, Bits: 3, TLVs: []api.TLV{{Type: 200, Value: []byte{7}}}})
	receive(t, d, 0, b, api.OK)
	if got, e := d.LSP(2, id(2, 0)); !bytes.Equal(got, b) || e != api.OK {
		t.Errorf("LSP = %x, %d; want %x", got, e, b)
	}
}

// With keys only what is signed by them is heard, and goes on as it was signed.
func TestReceiveSigned(t *testing.T) {
	first, second, other := api.Key{ID: 1, Secret: []byte("a")}, api.Key{ID: 2, Secret: []byte("b")}, api.Key{ID: 3, Secret: []byte("c")}
	c := conf(api.L2, 2)
	c.Keys = []api.Key{first, second}
	d := make1(t, c)
	link(t, d, 0, true)
	link(t, d, 1, true)
	for circuit, n := range []byte{2, 3} {
		p := greeting(n, circuit)
		receive(t, d, circuit, write(t, p), api.ErrKey)
		receive(t, d, circuit, seal(t, p, other), api.ErrKey)
		receive(t, d, circuit, seal(t, p, api.Key{ID: 2, Secret: []byte("a")}), api.ErrKey)
		isDown(t, d, circuit)
		receive(t, d, circuit, seal(t, p, second), api.OK)
	}
	l := say(2, 2, 1, 1)
	receive(t, d, 0, state(t, l), api.ErrKey)
	if len(d.Entries(2)) != 1 {
		t.Errorf("Entries = %v", d.Entries(2))
	}
	b := seal(t, lspPacket(t, l), second)
	receive(t, d, 0, b, api.OK)
	if got, _ := d.LSP(2, l.ID); !bytes.Equal(got, b) {
		t.Errorf("LSP = %x; want %x", got, b)
	}
	receive(t, d, 0, write(t, sum(t, csnp2)), api.ErrKey)
	receive(t, d, 0, seal(t, sum(t, csnp2), first), api.OK)
	out := d.Tick()
	b, _ = d.LSP(2, l.ID)
	if !hasBytes(over(out, 1), b) {
		t.Errorf("%v goes out", out)
	}
	// What the router makes is signed with the first one; what has a Life of another number still is signed.
	for _, x := range out {
		if p := open(t, x.Bytes, first, second); p.Kind != 20 || p.ID != l.ID {
			open(t, x.Bytes, first)
		}
	}
}

// lspPacket answers the packet of an LSP.
func lspPacket(t *testing.T, l api.LSP) pdu.PDU {
	t.Helper()
	return open(t, state(t, l))
}

// What is summed up says what is to send and what is to ask for.
func TestReceiveSums(t *testing.T) {
	for level := api.L1; level <= api.L2; level++ {
		for _, complete := range []bool{true, false} {
			d := make1(t, conf(level, 1))
			meet(t, d, 0, 2)
			hears(t, d, 0, say(level, 3, 5), say(level, 4, 5), say(level, 5, 5), say(level, 6, 5))
			d.Tick()
			all := d.Entries(level)
			kind := byte(25 + level)
			if complete {
				kind = byte(23 + level)
			}
			receive(t, d, 0, write(t, sum(t, byte(25+level), all...)), api.OK) // nothing is to send
			older, newer, is := all[1], all[2], all[3]
			older.Seq, newer.Seq = 4, 6
			unknown := api.Entry{ID: id(7, 0), Seq: 1, Life: 1}
			receive(t, d, 0, write(t, sum(t, kind, older, newer, is, unknown,
				api.Entry{ID: id(8, 0), Seq: 0, Life: 1}, api.Entry{ID: id(9, 0), Seq: 1, Life: 0})), api.OK)
			list := tick(t, d)
			var sent []api.LSPID
			for _, p := range ofKind(list, byte(16+2*level)) {
				sent = append(sent, p.ID)
			}
			want := []api.LSPID{id(3, 0)}
			if complete { // of the own one and of 6 nothing was said
				want = []api.LSPID{id(1, 0), id(3, 0), id(6, 0)}
			}
			if !slices.Equal(sent, want) {
				t.Errorf("%d: sent %v; want %v", kind, sent, want)
			}
			asked := entriesOf(t, ofKind(list, byte(25+level))[0])
			all[2].Life--
			if want := []api.Entry{all[2], {ID: id(7, 0)}}; !slices.Equal(asked, want) {
				t.Errorf("%d: asked %v; want %v", kind, asked, want)
			}
		}
	}
}

// A CSNP speaks of what lies from its Start to its End; of purges nobody is told because they lack.
func TestReceiveCompleteFromTo(t *testing.T) {
	for _, c := range []struct{ from, to api.LSPID }{
		{id(3, 0), id(5, 0)}, {id(2, 255), id(5, 0)}, {api.LSPID{}, lastID}, {id(4, 1), lastID}, {id(5, 0), id(3, 0)}, {id(9, 0), lastID},
	} {
		d := make1(t, conf(api.L2, 1))
		meet(t, d, 0, 2)
		purge := say(2, 4, 5)
		purge.Life = 0
		hears(t, d, 0, say(2, 3, 5), purge, say(2, 5, 5), say(2, 6, 5))
		d.Tick()
		all := d.Entries(2)
		receive(t, d, 0, write(t, sum(t, psnp2, all...)), api.OK)
		p := sum(t, csnp2)
		p.Start, p.End = c.from, c.to
		receive(t, d, 0, write(t, p), api.OK)
		var sent, want []api.LSPID
		for _, p := range ofKind(tick(t, d), 20) {
			sent = append(sent, p.ID)
		}
		for _, entry := range all {
			b := func(x api.LSPID) []byte { return append(append(slices.Clone(x.Node.Sys[:]), x.Node.Pseudo), x.Frag) }
			if entry.Life > 0 && bytes.Compare(b(c.from), b(entry.ID)) <= 0 && bytes.Compare(b(entry.ID), b(c.to)) <= 0 {
				want = append(want, entry.ID)
			}
		}
		if !slices.Equal(sent, want) {
			t.Errorf("from %v to %v: sent %v; want %v", c.from, c.to, sent, want)
		}
	}
}

// A PSNP speaks of nothing but of its entries, not even of the ID of noughts.
func TestReceivePartialLacksNothing(t *testing.T) {
	for _, kind := range []byte{psnp2, csnp2} {
		d := make1(t, conf(api.L2, 1))
		meet(t, d, 0, 2)
		nought := say(2, 0, 1)
		hears(t, d, 0, nought)
		d.Tick()
		receive(t, d, 0, write(t, sum(t, psnp2, d.Entries(2)...)), api.OK)
		p := sum(t, kind)
		p.End = api.LSPID{}
		receive(t, d, 0, write(t, p), api.OK)
		want := 0
		if kind == csnp2 {
			want = 1
		}
		if sent := ofKind(tick(t, d), 20); len(sent) != want {
			t.Errorf("%d: %v goes out", kind, sent)
		}
	}
}

// Each of the TLVs of the type 9 counts, in their order; if one is none, nothing does.
func TestReceiveSumsForm(t *testing.T) {
	d := make1(t, conf(api.L2, 1))
	meet(t, d, 0, 2)
	d.Tick()
	receive(t, d, 0, write(t, sum(t, psnp2, d.Entries(2)...)), api.OK)
	twin := make1(t, conf(api.L2, 1))
	meet(t, twin, 0, 2)
	twin.Tick()
	receive(t, twin, 0, write(t, sum(t, psnp2, d.Entries(2)...)), api.OK)
	for _, kind := range []byte{csnp2, psnp2} {
		p := sum(t, kind, api.Entry{ID: id(7, 0), Seq: 9, Life: 9})
		p.TLVs = append(p.TLVs, api.TLV{Type: 9, Value: make([]byte, 17)})
		receive(t, d, 0, write(t, p), api.ErrForm)
		p.TLVs = p.TLVs[1:]
		receive(t, d, 0, write(t, p), api.ErrForm)
	}
	if x, y := d.Tick(), twin.Tick(); !same(x, y) {
		t.Errorf("%v goes out; want %v", x, y)
	}
	// Other types don't count, an empty one neither; of what stands twice the later one counts.
	own := d.Entries(2)[0]
	old := own
	old.Seq = 0
	p := sum(t, psnp2, old)
	p.TLVs = append(p.TLVs, api.TLV{Type: 9}, api.TLV{Type: 8, Value: []byte{1}})
	p.TLVs = append(p.TLVs, sum(t, psnp2, own).TLVs...)
	receive(t, d, 0, write(t, p), api.OK)
	if out := d.Tick(); len(ofLSPs(t, out)) != 0 {
		t.Errorf("%v goes out", out)
	}
	slices.Reverse(p.TLVs)
	receive(t, d, 0, write(t, p), api.OK)
	if out := d.Tick(); len(ofLSPs(t, out)) != 1 {
		t.Errorf("%v goes out", out)
	}
}

// Receive doesn't settle.
func TestReceiveDoesNotSettle(t *testing.T) {
	d := make1(t, conf(api.L2, 1))
	meet(t, d, 0, 2)
	if l := held(t, d, 2, id(1, 0)); l.Seq != 1 {
		t.Errorf("%v is told", l)
	}
	d.Tick()
	if l := held(t, d, 2, id(1, 0)); l.Seq != 2 || len(l.Edges[0]) != 1 {
		t.Errorf("%v is told", l)
	}
	hears(t, d, 0, tells(say(2, 2, 1, 1), "10.2.0.0/16"))
	routesAre(t, d, 0)
	d.Tick()
	routesAre(t, d, 0, way("10.2.0.0/16", api.RouteL2, 15, api.Hop{Circuit: 0, To: sys(2)}))
}

// What is handed in is neither changed nor kept.
func TestReceiveKeepsNothing(t *testing.T) {
	d := make1(t, conf(api.L2, 1))
	link(t, d, 0, true)
	for _, b := range [][]byte{write(t, greeting(2, 0)), state(t, say(2, 2, 1, 1)), write(t, sum(t, csnp2, api.Entry{ID: id(3, 0), Seq: 1, Life: 1}))} {
		room := append(slices.Clone(b), 1, 2, 3)
		receive(t, d, 0, room[:len(b)], api.OK)
		if !bytes.Equal(room, append(slices.Clone(b), 1, 2, 3)) {
			t.Errorf("it became %x", room)
		}
		fill(room)
	}
	if a := adjacency(t, d, 0); a.State != api.Up || a.Peer != sys(2) {
		t.Errorf("the adjacency is %v", a)
	}
	holdsAs(t, d, say(2, 2, 1, 1))
}

// Nothing panics, whatever comes, and what is refused is not held.
func TestReceiveOdd(t *testing.T) {
	r := rand.New(rand.NewSource(1906))
	for _, level := range []int{1, 2, 3} {
		d := make1(t, conf(level, 2))
		meet(t, d, 0, 2)
		good := [][]byte{write(t, greeting(2, 0))}
		for lv := 1; lv <= 2; lv++ {
			good = append(good, state(t, tells(say(lv, 2, 3, 1, 4), "10.2.0.0/16", "2001:db8::/32")), write(t, sum(t, byte(23+lv), api.Entry{ID: id(1, 0), Seq: 1, Life: 3})), write(t, sum(t, byte(25+lv), api.Entry{ID: id(2, 0), Seq: 9, Life: 3})))
		}
		for i := range 4000 {
			b := slices.Clone(good[r.Intn(len(good))])
			for range r.Intn(3) {
				b[r.Intn(len(b))] = byte(r.Intn(256))
			}
			if r.Intn(4) == 0 {
				b = b[:r.Intn(len(b)+1)]
			}
			was := [2][]api.Entry{d.Entries(1), d.Entries(2)}
			if e := d.Receive(r.Intn(4)-1, b); e != api.OK && (!slices.Equal(was[0], d.Entries(1)) || !slices.Equal(was[1], d.Entries(2))) {
				t.Fatalf("%d, but another LSP is held", e)
			}
			if i%10 == 0 {
				d.Tick()
			}
		}
	}
}
