package daemon_test

import (
	"slices"
	"testing"

	"waymark/api"
	"waymark/daemon"
	"waymark/pdu"
)

// P19.3: what time brings.

// What goes out goes circuit by circuit: the hello, then of each level complete sums, LSPs, partial sums.
func TestTickOrder(t *testing.T) {
	d := make1(t, conf(api.Both, 3))
	for _, c := range []int{2, 0, 1} {
		meet(t, d, c, byte(2+c))
	}
	link(t, d, 1, true) // not open
	for level := 1; level <= 2; level++ {
		hears(t, d, 0, say(level, 2, 1), say(level, 9, 1))
	}
	wait(d, 1)
	for level := 1; level <= 2; level++ {
		hears(t, d, 2, say(level, 8, 1))
	}
	wait(d, 28)
	for level := 1; level <= 2; level++ {
		hears(t, d, 0, say(level, 7, 1))
	}
	type sent struct {
		circuit int
		kind    byte
		id      api.LSPID
	}
	var got []sent
	for _, x := range d.Tick() { // a multiple of 3 and of 10
		p := open(t, x.Bytes)
		got = append(got, sent{x.Circuit, p.Kind, p.ID})
	}
	none := api.LSPID{}
	want := []sent{
		{0, 17, none}, {0, 24, none}, {0, 18, id(1, 0)}, {0, 18, id(8, 0)}, {0, 26, none}, {0, 25, none}, {0, 20, id(1, 0)}, {0, 20, id(8, 0)}, {0, 27, none},
		{1, 17, none},
		{2, 17, none}, {2, 24, none}, {2, 18, id(1, 0)}, {2, 18, id(2, 0)}, {2, 18, id(7, 0)}, {2, 18, id(9, 0)}, {2, 25, none}, {2, 20, id(1, 0)}, {2, 20, id(2, 0)}, {2, 20, id(7, 0)}, {2, 20, id(9, 0)},
	}
	if !slices.Equal(got, want) {
		t.Errorf("it goes out\n%v; want\n%v", got, want)
	}
}

// Complete sums go out when a circuit was opened, and at each tenth tick.
func TestCompleteSumsEvery(t *testing.T) {
	d := make1(t, conf(api.L1, 2))
	meet(t, d, 0, 2)
	for i := 1; i <= 45; i++ {
		if i == 17 {
			meet(t, d, 1, 3)
		}
		if i == 34 { // another one at the same circuit: it is opened anew
			receive(t, d, 0, write(t, greeting(4, 0)), api.OK)
		}
		if i == 37 { // a hello that says the same
			receive(t, d, 0, write(t, greeting(4, 0)), api.OK)
		}
		out := d.Tick()
		for c := range 2 {
			sums := 0
			for _, b := range over(out, c) {
				if open(t, b).Kind == csnp1 {
					sums++
				}
			}
			want := 0
			if i%api.SumEvery == 0 && (c == 0 || i > 17) || c == 0 && (i == 1 || i == 34) || c == 1 && i == 17 {
				want = 1
			}
			if sums != want {
				t.Errorf("at %d %d sums go over %d", i, sums, c)
			}
		}
	}
}

// An adjacency that is Up with another Peer, Number or Level is another one: all is to send anew, and nothing to sum.
func TestOpenedAnew(t *testing.T) {
	other := greeting(3, 0)
	number := greeting(2, 0)
	number.Number = 8
	level := greeting(2, 0)
	level.Circuit = api.L2
	same := greeting(2, 0)
	same.Hold = 99
	for i, p := range []pdu.PDU{other, number, level, same} {
		d := make1(t, conf(api.Both, 1))
		meet(t, d, 0, 2)
		wait(d, 1)
		for lv := 1; lv <= 2; lv++ {
			receive(t, d, 0, write(t, sum(t, byte(25+lv), d.Entries(lv)...)), api.OK)
			hears(t, d, 0, say(lv, 9, 1)) // to sum
		}
		receive(t, d, 0, write(t, p), api.OK)
		list := tick(t, d)
		sums, sends, asked := len(ofKind(list, csnp2)), len(ofKind(list, 20)), len(ofKind(list, psnp2))
		want := [3]int{1, 2, 0}
		if i == 3 {
			want = [3]int{0, 0, 1}
		}
		if got := [3]int{sums, sends, asked}; got != want {
			t.Errorf("%d: at level 2 %v go out; want %v", i, got, want)
		}
		if i == 2 {
			want = [3]int{}
		}
		sums, sends, asked = len(ofKind(list, csnp1)), len(ofKind(list, 18)), len(ofKind(list, psnp1))
		if got := [3]int{sums, sends, asked}; got != want {
			t.Errorf("%d: at level 1 %v go out; want %v", i, got, want)
		}
	}
}

// manyHeld answers a router that holds so many LSPs, its own among them, and has heard them over the circuit 0 just now.
func manyHeld(t *testing.T, count int) *daemon.Daemon {
	t.Helper()
	d := make1(t, conf(api.L2, 2))
	meet(t, d, 0, 2)
	wait(d, 1)
	receive(t, d, 0, write(t, sum(t, psnp2, d.Entries(2)...)), api.OK)
	for i := range count - 1 {
		l := say(2, byte(2+i/200), 1)
		l.ID.Frag = byte(i % 200)
		hears(t, d, 0, l)
	}
	return d
}

// Sums: 60 entries to a packet, 15 to a TLV; from its first entry to its last, but for the ends.
func TestSumsInParts(t *testing.T) {
	for _, count := range []int{1, 2, 15, 16, 59, 60, 61, 75, 76, 119, 120, 121, 300} {
		d := manyHeld(t, count)
		asked := ofKind(tick(t, d), psnp2)
		wait(d, 7)
		list := ofKind(tick(t, d), csnp2)
		all := d.Entries(2)
		if len(all) != count || len(list) != (count+59)/60 || len(asked) != (count-1+59)/60 {
			t.Fatalf("of %d: %d complete ones, %d partial ones", len(all), len(list), len(asked))
		}
		var told []api.Entry
		for i, p := range list {
			entries := entriesOf(t, p)
			parts(t, p)
			from, to := entries[0].ID, entries[len(entries)-1].ID
			if i == 0 {
				from = api.LSPID{}
			}
			if i == len(list)-1 {
				to = lastID
			}
			if p.Source != (api.Node{Sys: sys(1)}) || p.Start != from || p.End != to {
				t.Errorf("%v; want from %v to %v", p, from, to)
			}
			told = append(told, entries...)
		}
		if !slices.Equal(told, all) {
			t.Errorf("%v is told; want %v", told, all)
		}
		told = nil
		for _, p := range asked {
			parts(t, p)
			told = append(told, entriesOf(t, p)...)
		}
		for i := range all {
			all[i].Life += 8
		}
		if !slices.Equal(told, all[1:]) {
			t.Errorf("%v is told; want %v", told, all[1:])
		}
	}
}

// parts looks at whether the entries of a packet stand in TLVs as they should.
func parts(t *testing.T, p pdu.PDU) {
	t.Helper()
	for i, v := range p.TLVs {
		size := len(v.Value) / 16
		if size > 15 || size < 15 && i < len(p.TLVs)-1 || size == 0 || i > 3 {
			t.Errorf("the TLV %d has %d entries", i, size)
		}
	}
}

// Who holds nothing tells so: one packet without a TLV.
func TestSumOfNothing(t *testing.T) {
	d := make1(t, conf(api.L2, 1))
	meet(t, d, 0, 2)
	wait(d, 1)
	silence(t, d, 2)
	wait(d, api.ZeroAge)
	meet(t, d, 0, 2)
	if len(d.Entries(2)) != 0 {
		t.Fatalf("it holds %v", d.Entries(2))
	}
	list := ofKind(tick(t, d), csnp2)
	if len(list) != 1 || len(list[0].TLVs) != 0 || list[0].Start != (api.LSPID{}) || list[0].End != lastID {
		t.Errorf("%v goes out", list)
	}
}

// silence makes a level be mute, by an own LSP of the greatest number that isn't what is told.
func silence(t *testing.T, d *daemon.Daemon, level int) {
	t.Helper()
	l := say(level, 1, 1<<32-1)
	l.Host = "not the host"
	hears(t, d, 0, l)
	d.Tick()
	if e := d.Entries(level); len(e) == 0 || e[0].Life != 0 || e[0].Seq != 1<<32-1 {
		t.Fatalf("it isn't mute: %v", e)
	}
}

// LSPs are sent at each tick till the other side has summed them up, with the Life that they have then.
func TestSendsAgain(t *testing.T) {
	d := make1(t, conf(api.L2, 1))
	meet(t, d, 0, 2)
	hears(t, d, 0, say(2, 3, 1))
	receive(t, d, 0, write(t, sum(t, psnp2, api.Entry{ID: id(3, 0), Seq: 0, Life: 9})), api.OK)
	for i := range 25 {
		list := ofKind(tick(t, d), 20)
		if len(list) != 2 || list[0].Life != api.MaxAge-i || list[1].Life != api.MaxAge-i-1 {
			t.Fatalf("%v goes out", list)
		}
	}
	receive(t, d, 0, write(t, sum(t, psnp2, d.Entries(2)[0])), api.OK)
	if list := ofKind(tick(t, d), 20); len(list) != 1 || list[0].ID != id(3, 0) {
		t.Fatalf("%v goes out", list)
	}
}

// LSPs grow old; one that comes to its end is flooded as a purge, and is gone a while later, from what is to send, too.
func TestAge(t *testing.T) {
	for level := api.L1; level <= api.L2; level++ {
		d := make1(t, conf(level, 2))
		meet(t, d, 0, 2)
		meet(t, d, 1, 3)
		l := tells(say(level, 2, 1, 1), "10.2.0.0/16")
		l.Life = 20
		hears(t, d, 0, l)
		for i := 1; i < 20; i++ {
			d.Tick()
			holdsLife(t, d, l, 20-i)
			if i == 10 {
				for c := range 2 {
					receive(t, d, c, write(t, sum(t, byte(25+level), d.Entries(level)...)), api.OK)
				}
			}
		}
		if len(d.Routes(0)) != 1 {
			t.Errorf("Routes = %v", d.Routes(0))
		}
		purge, _ := d.LSP(level, l.ID)
		purge[10], purge[11] = 0, 0
		for i := range api.ZeroAge {
			out := d.Tick()
			for c := range 2 {
				if !hasBytes(over(out, c), purge) {
					t.Errorf("%d ticks behind the end it isn't sent over %d", i, c)
				}
			}
			holdsLife(t, d, l, 0)
			routesAre(t, d, 0)
			// What is summed up of a purge that isn't known is nothing.
			receive(t, d, 0, write(t, sum(t, byte(25+level), api.Entry{ID: id(9, 9), Seq: 3})), api.OK)
		}
		out := d.Tick()
		if hasBytes(over(out, 0), purge) || len(d.Entries(level)) != 1 {
			t.Errorf("it is held still: %v", d.Entries(level))
		}
		// It may come again, as if it had never been there; of the old one nothing is left.
		hears(t, d, 0, l)
		holdsAs(t, d, l)
		out = d.Tick()
		if !slices.Contains(ofLSPs(t, out), 1) || hasBytes(over(out, 1), purge) {
			t.Errorf("%v goes out", out)
		}
	}
}

// What is forgotten by the store isn't asked for any more.
func TestForgotten(t *testing.T) {
	d := make1(t, conf(api.L2, 1))
	meet(t, d, 0, 2)
	d.Tick()
	purge := say(2, 3, 4)
	purge.Life = 0
	hears(t, d, 0, purge)
	wait(d, api.ZeroAge-1)
	receive(t, d, 0, write(t, sum(t, psnp2, api.Entry{ID: id(3, 0), Seq: 5, Life: 1})), api.OK) // to sum
	list := tick(t, d)
	if sums := ofKind(list, psnp2); len(sums) != 0 {
		t.Errorf("%v goes out", sums)
	}
	receive(t, d, 0, write(t, sum(t, psnp2, api.Entry{ID: id(3, 0), Seq: 5, Life: 1})), api.OK)
	list = tick(t, d)
	if sums := ofKind(list, psnp2); len(sums) != 1 || !same(entriesOf(t, sums[0]), []api.Entry{{ID: id(3, 0)}}) {
		t.Errorf("%v goes out", sums)
	}
}

// An own LSP is told anew when its Life is MaxAge - Refresh, whatever is in it.
func TestRefresh(t *testing.T) {
	c := conf(api.Both, 1)
	d := make1(t, c)
	for i := 1; i <= 2*api.Refresh+10; i++ {
		d.Tick()
		for level := 1; level <= 2; level++ {
			e := d.Entries(level)[0]
			if int(e.Seq) != 1+i/api.Refresh || e.Life != api.MaxAge-i%api.Refresh {
				t.Fatalf("at %d it is %v", i, e)
			}
		}
	}
}

// An own LSP that comes with little Life left is told anew; one with more isn't, if it is what is wanted.
func TestRefreshOfWhatComes(t *testing.T) {
	for _, life := range []int{1, 300, 301, 302, 1199, 1200, 65535} {
		d := make1(t, conf(api.L2, 1))
		meet(t, d, 0, 2)
		d.Tick()
		l := held(t, d, 2, id(1, 0))
		l.Seq, l.Life = 50, life
		hears(t, d, 0, l)
		d.Tick()
		want := api.Entry{ID: id(1, 0), Seq: 50, Life: life - 1}
		if life-1 <= api.MaxAge-api.Refresh {
			want.Seq, want.Life = 51, api.MaxAge
		}
		if got := d.Entries(2)[0]; got.Seq != want.Seq || got.Life != want.Life {
			t.Errorf("with %d it is %v; want %v", life, got, want)
		}
	}
}

// Purges of own LSPs that are wanted are told anew.
func TestPurgeOfOwn(t *testing.T) {
	d := make1(t, conf(api.L2, 1))
	meet(t, d, 0, 2)
	d.Tick()
	l := held(t, d, 2, id(1, 0))
	was := l
	l.Life = 0
	hears(t, d, 0, l)
	if e := d.Entries(2)[0]; e.Life != 0 {
		t.Fatalf("it is held as %v", e)
	}
	list := ofKind(tick(t, d), 20)
	was.Seq++
	was.Life = api.MaxAge
	holdsAs(t, d, was)
	if len(list) != 1 || list[0].Seq != was.Seq {
		t.Errorf("%v goes out", list)
	}
}

// Mesh groups: what comes over one circuit of a group doesn't go on over another, nor over one that is blocked.
func TestMesh(t *testing.T) {
	c := conf(api.L2, 4)
	for i, mesh := range []int{5, 5, 0, -1} {
		c.Links[i].Mesh = mesh
	}
	d := make1(t, c)
	for i := range 4 {
		meet(t, d, i, byte(2+i))
	}
	hears(t, d, 0, say(2, 9, 1))
	d.Tick()
	out := d.Tick()
	count := map[int]int{}
	for _, c := range ofLSPs(t, out) {
		count[c]++
	}
	if count[0] != 1 || count[1] != 1 || count[2] != 2 || count[3] != 0 {
		t.Errorf("LSPs go over %v", count)
	}
	if err := d.Configure(conf(api.L2, 4)); err != api.OK {
		t.Fatal(err)
	}
	meet(t, d, 3, 5)
	if out = d.Tick(); !slices.Equal(ofLSPs(t, out), []int{3, 3}) {
		t.Errorf("LSPs go over %v", ofLSPs(t, out))
	}
}

// What goes out is new memory.
func TestTickMemory(t *testing.T) {
	d, twin := make1(t, conf(api.Both, 2)), make1(t, conf(api.Both, 2))
	for _, x := range []*daemon.Daemon{d, twin} {
		meet(t, x, 0, 2)
		meet(t, x, 1, 3)
		hears(t, x, 0, tells(say(2, 2, 1, 1), "10.2.0.0/16"))
	}
	for range 31 {
		out, other := d.Tick(), twin.Tick()
		for i, x := range out {
			fill(x.Bytes)
			for _, y := range out[i+1:] {
				if len(y.Bytes) == 0 || y.Bytes[0] != 0x83 {
					t.Fatal("two packets share memory")
				}
			}
		}
		out = out[:cap(out)]
		clear(out)
		if len(other) > 0 && other[0].Bytes[0] != 0x83 {
			t.Fatal("two routers share memory")
		}
	}
	if x, y := d.Tick(), twin.Tick(); !same(x, y) {
		t.Errorf("%v goes out; want %v", x, y)
	}
}
