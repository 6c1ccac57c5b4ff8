package store_test

import (
	"bytes"
	"cmp"
	"math"
	"math/rand"
	"slices"
	"testing"

	"waymark/api"
	"waymark/pdu"
	"waymark/store"
)

// The ends of all IDs.
var (
	first = api.LSPID{}
	last  = api.LSPID{Node: api.Node{Sys: api.SysID{255, 255, 255, 255, 255, 255}, Pseudo: 255}, Frag: 255}
)

// number answers the ID of that number; they are in the numbers' order.
func number(n int) api.LSPID {
	return api.LSPID{Node: api.Node{Sys: api.SysID{4: byte(n >> 16), 5: byte(n >> 8)}, Pseudo: byte(n)}, Frag: 7}
}

// write answers the bytes of p.
func write(t *testing.T, p pdu.PDU) []byte {
	t.Helper()
	b, e := pdu.Write(p)
	if e != api.OK {
		t.Fatalf("Write(%v) = %d", p, e)
	}
	return b
}

// packet answers an LSP of level 1; its value makes one unlike another.
func packet(t *testing.T, id api.LSPID, seq uint32, life int, value ...byte) []byte {
	t.Helper()
	return write(t, pdu.PDU{Kind: 18, ID: id, Seq: seq, Life: life, Bits: 1, TLVs: []api.TLV{{Type: 99, Value: value}}})
}

// sumOf answers an LSP's check bytes.
func sumOf(b []byte) uint16 {
	return uint16(b[24])<<8 | uint16(b[25])
}

// put looks at what Put answers.
func put(t *testing.T, s *store.Store, b []byte, want int, e api.Errno) {
	t.Helper()
	if got, f := s.Put(b); got != want || f != e {
		t.Fatalf("Put(%x) = %d, %d; want %d, %d", b, got, f, want, e)
	}
}

// age looks at what comes to its end.
func age(t *testing.T, s *store.Store, ticks int, want ...api.LSPID) {
	t.Helper()
	if got, e := s.Age(ticks); !slices.Equal(got, want) || e != api.OK {
		t.Fatalf("Age(%d) = %v, %d; want %v", ticks, got, e, want)
	}
}

// holds looks at what is held of the ID of b: b, with that Life.
func holds(t *testing.T, s *store.Store, b []byte, life int) {
	t.Helper()
	p, e := pdu.Read(b)
	if e != api.OK {
		t.Fatalf("Read(%x) = %d", b, e)
	}
	p.Life = life
	want := write(t, p)
	entry := api.Entry{ID: p.ID, Seq: p.Seq, Life: life, Sum: sumOf(b)}
	if got, is, e := s.Get(p.ID); !bytes.Equal(got, want) || is != entry || e != api.OK {
		t.Fatalf("Get(%v) = %x, %v, %d; want %x, %v", p.ID, got, is, e, want, entry)
	}
	if list := s.List(p.ID, p.ID); !slices.Equal(list, []api.Entry{entry}) {
		t.Fatalf("List of %v = %v; want %v", p.ID, list, entry)
	}
}

// holdsNot looks at whether nothing is held of id.
func holdsNot(t *testing.T, s *store.Store, id api.LSPID) {
	t.Helper()
	if b, entry, e := s.Get(id); len(b) != 0 || entry != (api.Entry{}) || e != api.ErrNone {
		t.Fatalf("Get(%v) = %x, %v, %d; want none", id, b, entry, e)
	}
	if n, e := s.Compare(api.Entry{ID: id, Seq: 1, Life: 1}); n != 0 || e != api.ErrNone {
		t.Fatalf("Compare to %v = %d, %d; want none", id, n, e)
	}
	if list := s.List(id, id); len(list) != 0 {
		t.Fatalf("List of %v = %v; want none", id, list)
	}
}

// counts looks at how many there are, and at whether one was refused.
func counts(t *testing.T, s *store.Store, n int, refused bool) {
	t.Helper()
	if s.Len() != n || s.Refused() != refused {
		t.Fatalf("Len() = %d, Refused() = %t; want %d, %t", s.Len(), s.Refused(), n, refused)
	}
	if list := s.List(first, last); len(list) != n {
		t.Fatalf("List of all has %d; want %d", len(list), n)
	}
}

func TestExamples(t *testing.T) {
	s, id := store.New(), number(1)
	put(t, s, packet(t, id, 1, 5), 1, api.OK)
	put(t, s, packet(t, id, 1, 5), 0, api.OK)
	put(t, s, packet(t, id, 1, 3), 0, api.OK)
	holds(t, s, packet(t, id, 1, 5), 5)
	put(t, s, packet(t, id, 2, 5), 1, api.OK)
	put(t, s, packet(t, id, 1, 5), -1, api.OK)
	holds(t, s, packet(t, id, 2, 5), 5)
	put(t, s, packet(t, id, 2, 0), 1, api.OK)
	put(t, s, packet(t, id, 2, 9), -1, api.OK)
	holds(t, s, packet(t, id, 2, 0), 0)

	s = store.New()
	put(t, s, packet(t, id, 1, 5), 1, api.OK)
	age(t, s, 5, id)
	holds(t, s, packet(t, id, 1, 5), 0)
	age(t, s, 59)
	holds(t, s, packet(t, id, 1, 5), 0)
	age(t, s, 1)
	holdsNot(t, s, id)
	counts(t, s, 0, false)
}

// P12.1

// ranked answers LSPs of one ID, each of which is newer than all ahead of it. Of a row all are the same.
func ranked(t *testing.T, id api.LSPID) [][][]byte {
	t.Helper()
	// A byte of 0 and one of 255 have one check sum.
	at := func(seq uint32, life int, value ...byte) []byte { return packet(t, id, seq, life, value...) }
	other := func(kind, bits byte, seq uint32, life int, value ...byte) []byte {
		return write(t, pdu.PDU{Kind: kind, ID: id, Seq: seq, Life: life, Bits: bits, TLVs: []api.TLV{{Type: 99, Value: value}}})
	}
	low, high := []byte{0, 0, 1}, []byte{0, 0, 2}
	if sumOf(at(5, 9, low...)) > sumOf(at(5, 9, high...)) {
		low, high = high, low
	}
	turned := slices.Clone(low)
	turned[0] = 255
	list := [][][]byte{
		{at(0, 7, low...), at(0, 1, low...)},
		{at(0, 0, low...)},
		{at(1, 9, high...)},
		{at(4, 0, high...)}, // not even a purge is newer than a greater Seq
		{at(5, 1, low...), at(5, 9, low...), at(5, 65535, low...)},
		{at(5, 2, turned...), at(5, 1, turned...)},
		{other(20, 1, 5, 3, low...), other(20, 1, 5, 1, low...)}, // the kind stands ahead of all else of which bytes differ
		{at(5, 9, high...), at(5, 1, high...)},
		{at(5, 0, low...)},
		{at(5, 0, turned...)},
		{other(20, 1, 5, 0, low...)},
		{at(5, 0, high...)},
		{at(6, 9, low...)},
		{at(math.MaxInt32, 5, low...)},
		{at(math.MaxInt32+1, 5, low...)},
		{at(math.MaxUint32, 3, low...)},
		{at(math.MaxUint32, 0, low...)},
	}
	for _, i := range []int{4, 5, 8, 9} {
		if sumOf(list[i][0]) != sumOf(list[i&^1][0]) || sumOf(list[i][0]) >= sumOf(list[7][0]) {
			t.Fatalf("the LSPs at %d haven't the check bytes that this test asks for", i)
		}
	}
	return list
}

func TestNewer(t *testing.T) {
	id := number(77)
	list := ranked(t, id)
	for i, row := range list {
		for k, others := range list {
			for _, is := range row {
				for _, b := range others {
					s := store.New()
					put(t, s, packet(t, number(76), 3, 3), 1, api.OK)
					put(t, s, is, 1, api.OK)
					put(t, s, b, cmp.Compare(k, i), api.OK)
					stays := is
					if k > i {
						stays = b
					}
					p, _ := pdu.Read(stays)
					holds(t, s, stays, p.Life)
					holds(t, s, packet(t, number(76), 3, 3), 3)
					counts(t, s, 2, false)
				}
			}
		}
	}
}

// The greater check bytes are the newer ones, as a number and not as bytes turned round.
func TestNewerByCheckBytes(t *testing.T) {
	id := number(3)
	var list [][]byte
	for a := range 40 {
		list = append(list, packet(t, id, 9, 4, 6, byte(a*6), byte(250-a)))
	}
	for _, is := range list {
		for _, b := range list {
			want := cmp.Compare(sumOf(b), sumOf(is))
			if want == 0 {
				want = bytes.Compare(b, is)
			}
			s := store.New()
			put(t, s, is, 1, api.OK)
			put(t, s, b, want, api.OK)
		}
	}
}

// The bytes of which the last one differs, or one has more, are told apart too.
func TestNewerByBytes(t *testing.T) {
	id := number(3)
	a, b := packet(t, id, 9, 4, 8, 8, 0), packet(t, id, 9, 2, 8, 8, 255)
	if sumOf(a) != sumOf(b) {
		t.Fatal("they have unlike check bytes")
	}
	s := store.New()
	put(t, s, a, 1, api.OK)
	put(t, s, b, 1, api.OK)
	put(t, s, a, -1, api.OK)
	holds(t, s, b, 2)
}

// Whether what is held is a purge is asked of the Life that it has now.
func TestNewerAsTimeGoesBy(t *testing.T) {
	s, id := store.New(), number(1)
	put(t, s, packet(t, id, 4, 5), 1, api.OK)
	age(t, s, 4)
	put(t, s, packet(t, id, 4, 5), 0, api.OK)
	holds(t, s, packet(t, id, 4, 5), 1)
	age(t, s, 1, id)
	put(t, s, packet(t, id, 4, 5), -1, api.OK)
	put(t, s, packet(t, id, 4, 0), 0, api.OK)
	holds(t, s, packet(t, id, 4, 5), 0)
	put(t, s, packet(t, id, 5, 2), 1, api.OK)
	holds(t, s, packet(t, id, 5, 2), 2)
}

func TestPutErrors(t *testing.T) {
	good := packet(t, number(1), 1, 5)
	wrong := bytes.Clone(good)
	wrong[20] ^= 1
	short := good[:len(good)-1]
	for _, c := range []struct {
		b []byte
		e api.Errno
	}{
		{nil, api.ErrForm},
		{[]byte{}, api.ErrForm},
		{[]byte{1}, api.ErrForm},
		{short, api.ErrForm},
		{wrong, api.ErrSum},
		{make([]byte, api.MaxPDU), api.ErrForm},
		{make([]byte, api.MaxPDU+1), api.ErrLong},
		{append(bytes.Clone(good), make([]byte, api.MaxPDU)...), api.ErrLong},
		{write(t, pdu.PDU{Kind: 15, Circuit: 1, Hold: 3}), api.ErrForm},
		{write(t, pdu.PDU{Kind: 16, Circuit: 1, Hold: 3}), api.ErrForm},
		{write(t, pdu.PDU{Kind: 17, Circuit: 1, Hold: 3}), api.ErrForm},
		{write(t, pdu.PDU{Kind: 24}), api.ErrForm},
		{write(t, pdu.PDU{Kind: 25}), api.ErrForm},
		{write(t, pdu.PDU{Kind: 26}), api.ErrForm},
		{write(t, pdu.PDU{Kind: 27}), api.ErrForm},
	} {
		s := store.New()
		put(t, s, c.b, 0, c.e)
		counts(t, s, 0, false)
		put(t, s, good, 1, api.OK)
		put(t, s, c.b, 0, c.e)
		counts(t, s, 1, false)
		holds(t, s, good, 5)
		var none *store.Store
		put(t, none, c.b, 0, min(c.e, api.ErrNone))
	}
	var none *store.Store
	put(t, none, good, 0, api.ErrNone)
}

// What lsp couldn't read is an LSP nonetheless, and both levels' are.
func TestPutOfAnyLSP(t *testing.T) {
	s := store.New()
	for i, kind := range []byte{18, 20} {
		for k, list := range [][]api.TLV{nil, {{Type: 1, Value: []byte{9}}}, {{Type: 22, Value: []byte{1}}, {Type: 1}}} {
			id := number(i*10 + k)
			b := write(t, pdu.PDU{Kind: kind, ID: id, Life: 65535, Bits: 255, TLVs: list})
			put(t, s, b, 1, api.OK)
			holds(t, s, b, 65535)
		}
	}
	counts(t, s, 6, false)
	var list []api.TLV
	for range 5 {
		list = append(list, api.TLV{Type: 5, Value: make([]byte, 255)})
	}
	list = append(list, api.TLV{Type: 5, Value: make([]byte, 178)})
	b := write(t, pdu.PDU{Kind: 18, ID: number(99), Seq: 1, Life: 1, TLVs: list})
	if len(b) != api.MaxPDU {
		t.Fatalf("%d bytes", len(b))
	}
	put(t, s, b, 1, api.OK)
	holds(t, s, b, 1)
}

// P12.2

func TestGetAndDrop(t *testing.T) {
	s := store.New()
	holdsNot(t, s, first)
	if e := s.Drop(first); e != api.ErrNone {
		t.Errorf("Drop of none = %d", e)
	}
	ids := []api.LSPID{first, last, {Frag: 1}, {Node: api.Node{Pseudo: 1}}, {Node: api.Node{Sys: api.SysID{1}}}, {Node: api.Node{Sys: api.SysID{5: 1}}}}
	for i, id := range ids {
		put(t, s, packet(t, id, uint32(i), i, byte(i)), 1, api.OK)
	}
	for i, id := range ids {
		holds(t, s, packet(t, id, uint32(i), i, byte(i)), i)
		if e := s.Drop(id); e != api.OK {
			t.Errorf("Drop(%v) = %d", id, e)
		}
		holdsNot(t, s, id)
		if e := s.Drop(id); e != api.ErrNone {
			t.Errorf("Drop(%v) again = %d", id, e)
		}
		counts(t, s, len(ids)-1-i, false)
	}
	// Of what is dropped nothing is known any more: an older one comes in, and a purge counts anew.
	put(t, s, packet(t, first, 0, 0), 1, api.OK)
	age(t, s, 50)
	s.Drop(first)
	put(t, s, packet(t, first, 0, 0), 1, api.OK)
	age(t, s, 59)
	counts(t, s, 1, false)
	age(t, s, 1)
	counts(t, s, 0, false)
}

func TestGetTellsTheLife(t *testing.T) {
	s, id := store.New(), number(5)
	b := packet(t, id, 3, 65535, 1, 2, 3)
	put(t, s, b, 1, api.OK)
	left := 65535
	for _, ticks := range []int{0, 1, 254, 1, 256, 0, 30000, 35000, 22, 1} {
		left -= ticks
		if left == 0 {
			age(t, s, ticks, id)
		} else {
			age(t, s, ticks)
		}
		holds(t, s, b, left)
	}
	if left != 0 {
		t.Errorf("%d ticks are left", left)
	}
}

// P12.3

func TestAge(t *testing.T) {
	s := store.New()
	for _, n := range []int{9, 2, 300, 5, 70000, 7} {
		put(t, s, packet(t, number(n), 1, n%8), 1, api.OK) // 1, 2, 4, 5, 0, 7
	}
	age(t, s, 0)
	holds(t, s, packet(t, number(7), 1, 7), 7)
	age(t, s, 1, number(9))
	age(t, s, 0)
	age(t, s, 3, number(2), number(300))
	holds(t, s, packet(t, number(5), 1, 5), 1)
	holds(t, s, packet(t, number(7), 1, 7), 3)
	age(t, s, 50, number(5), number(7))
	counts(t, s, 6, false)
	age(t, s, 5)
	counts(t, s, 6, false)
	age(t, s, 1) // 60
	holdsNot(t, s, number(70000))
	counts(t, s, 5, false)
	age(t, s, 1)
	holdsNot(t, s, number(9))
	counts(t, s, 4, false)
	age(t, s, 65535)
	counts(t, s, 0, false)
	age(t, s, 65535)
}

// Within one call an LSP may come to its end, and that may be long enough ago.
func TestAgeBeyondTheEnd(t *testing.T) {
	for _, life := range []int{1, 5, 100} {
		for _, behind := range []int{0, 1, 59, 60, 61, 5000} {
			s, id := store.New(), number(1)
			put(t, s, packet(t, id, 1, life), 1, api.OK)
			age(t, s, life+behind, id)
			if behind >= 60 {
				holdsNot(t, s, id)
				continue
			}
			holds(t, s, packet(t, id, 1, life), 0)
			age(t, s, 59-behind)
			holds(t, s, packet(t, id, 1, life), 0)
			age(t, s, 1)
			holdsNot(t, s, id)
		}
	}
}

// A purge counts from when it came; that it comes again changes nothing, but a newer one counts anew.
func TestAgeOfPurges(t *testing.T) {
	s, id := store.New(), number(1)
	put(t, s, packet(t, id, 3, 100), 1, api.OK)
	age(t, s, 50)
	put(t, s, packet(t, id, 3, 0), 1, api.OK)
	age(t, s, 40)
	put(t, s, packet(t, id, 3, 0), 0, api.OK)
	put(t, s, packet(t, id, 2, 0), -1, api.OK)
	put(t, s, packet(t, id, 3, 9), -1, api.OK)
	age(t, s, 19)
	counts(t, s, 1, false)
	put(t, s, packet(t, id, 4, 0), 1, api.OK)
	age(t, s, 59)
	holds(t, s, packet(t, id, 4, 0), 0)
	put(t, s, packet(t, id, 5, 1), 1, api.OK)
	age(t, s, 60, id)
	holds(t, s, packet(t, id, 5, 0), 0)
	age(t, s, 1)
	holdsNot(t, s, id)
}

func TestAgeErrors(t *testing.T) {
	s := store.New()
	b := packet(t, number(1), 1, 5)
	put(t, s, b, 1, api.OK)
	var none *store.Store
	for _, ticks := range []int{math.MinInt, -65536, -1, 65536, 65537, math.MaxInt} {
		for _, of := range []*store.Store{s, none} {
			if list, e := of.Age(ticks); len(list) != 0 || e != api.ErrArg {
				t.Errorf("Age(%d) = %v, %d", ticks, list, e)
			}
		}
		holds(t, s, b, 5)
	}
	age(t, s, 65535, number(1))
}

// P12.4

func TestList(t *testing.T) {
	s := store.New()
	var ids []api.LSPID
	for _, name := range []api.SysID{{}, {5: 1}, {5: 2}, {4: 1}, {1}, {1, 5: 1}, {255, 255, 255, 255, 255, 255}} {
		for _, pseudo := range []byte{0, 1, 255} {
			for _, frag := range []byte{0, 2, 255} {
				ids = append(ids, api.LSPID{Node: api.Node{Sys: name, Pseudo: pseudo}, Frag: frag})
			}
		}
	}
	all := make([]api.Entry, len(ids))
	for _, i := range rand.New(rand.NewSource(1204)).Perm(len(ids)) {
		b := packet(t, ids[i], uint32(i), i%3, byte(i))
		put(t, s, b, 1, api.OK)
		all[i] = api.Entry{ID: ids[i], Seq: uint32(i), Life: i % 3, Sum: sumOf(b)}
	}
	for i := range ids {
		for k := range ids {
			if got := s.List(ids[i], ids[k]); !slices.Equal(got, all[i:max(i, k+1)]) {
				t.Fatalf("List(%v, %v) = %v", ids[i], ids[k], got)
			}
		}
	}
	// Ends that aren't held.
	from, to := api.LSPID{Node: api.Node{Sys: api.SysID{5: 1}, Pseudo: 1}, Frag: 1}, api.LSPID{Node: api.Node{Sys: api.SysID{5: 2}, Pseudo: 2}}
	if got := s.List(from, to); !slices.Equal(got, all[13:24]) {
		t.Errorf("List(%v, %v) = %v", from, to, got)
	}
	age(t, s, 1, pick(ids, 1)...)
	for _, e := range s.List(first, last) {
		if e.Life > 1 || e.Life == 1 && e.Seq%3 != 2 {
			t.Errorf("an entry of another Life: %v", e)
		}
	}
}

// pick answers each third ID, from that one on.
func pick(ids []api.LSPID, from int) []api.LSPID {
	var list []api.LSPID
	for i := from; i < len(ids); i += 3 {
		list = append(list, ids[i])
	}
	return list
}

func TestCompare(t *testing.T) {
	id := number(8)
	for _, life := range []int{0, 1, 1200} {
		s := store.New()
		b := packet(t, id, 6, life, 1, 2, 3)
		put(t, s, b, 1, api.OK)
		sum := sumOf(b)
		for _, c := range []struct {
			seq   uint32
			life  int
			sum   uint16
			live  int // to one that is no purge
			purge int // to a purge
		}{
			{5, 0, 65535, -1, -1}, {5, 9, 65535, -1, -1}, {0, 0, 0, -1, -1},
			{7, 0, 0, 1, 1}, {7, 9, 0, 1, 1}, {math.MaxUint32, 1, 0, 1, 1},
			{6, 0, 0, 1, -1}, {6, 0, sum, 1, 0}, {6, 0, 65535, 1, 1},
			{6, 9, 0, -1, -1}, {6, 9, sum, 0, -1}, {6, 9, 65535, 1, -1},
			{6, 1, sum - 1, -1, -1}, {6, 1, sum, 0, -1}, {6, 1, sum + 1, 1, -1},
			{6, 0, sum - 1, 1, -1}, {6, 0, sum + 1, 1, 1},
			{6, 65535, sum, 0, -1}, {6, math.MaxInt, sum, 0, -1}, {6, -1, sum, 0, -1}, {6, math.MinInt, sum, 0, -1},
		} {
			want := c.live
			if life == 0 {
				want = c.purge
			}
			if got, e := s.Compare(api.Entry{ID: id, Seq: c.seq, Life: c.life, Sum: c.sum}); got != want || e != api.OK {
				t.Errorf("Compare(%v) to a Life of %d = %d, %d; want %d", c, life, got, e, want)
			}
		}
		holds(t, s, b, life)
		for _, other := range []api.LSPID{first, last, number(7), number(9), {Node: id.Node}} {
			holdsNot(t, s, other)
		}
	}
}

// Which of two is a purge is asked of the Life that the held one has now.
func TestCompareAsTimeGoesBy(t *testing.T) {
	s, id := store.New(), number(8)
	b := packet(t, id, 6, 2)
	put(t, s, b, 1, api.OK)
	for _, want := range []int{0, 0, -1} {
		if got, e := s.Compare(api.Entry{ID: id, Seq: 6, Life: 2, Sum: sumOf(b)}); got != want || e != api.OK {
			t.Errorf("Compare = %d, %d; want %d", got, e, want)
		}
		s.Age(1)
	}
}

// P12.5

// full answers a store that has no more room.
func full(t *testing.T) *store.Store {
	t.Helper()
	s := store.New()
	for n := range api.MaxLSPs {
		counts(t, s, n, false)
		put(t, s, packet(t, number(n), 1, n%2*100), 1, api.OK)
	}
	counts(t, s, api.MaxLSPs, false)
	return s
}

func TestFull(t *testing.T) {
	s, more := full(t), packet(t, number(api.MaxLSPs), 1, 9)
	put(t, s, more, 0, api.ErrFull)
	holdsNot(t, s, number(api.MaxLSPs))
	counts(t, s, api.MaxLSPs, true)
	// Of an ID that is held there is room; wrong packets have their own errors.
	put(t, s, packet(t, number(3), 2, 50), 1, api.OK)
	put(t, s, packet(t, number(3), 1, 50), -1, api.OK)
	put(t, s, packet(t, number(3), 2, 50), 0, api.OK)
	put(t, s, more[:9], 0, api.ErrForm)
	wrong := bytes.Clone(more)
	wrong[20] ^= 1
	put(t, s, wrong, 0, api.ErrSum)
	counts(t, s, api.MaxLSPs, true)
	// Nothing is dropped by these.
	if e := s.Drop(number(api.MaxLSPs)); e != api.ErrNone {
		t.Errorf("Drop of none = %d", e)
	}
	s.Age(-1)
	age(t, s, 50, number(3))
	counts(t, s, api.MaxLSPs, true)
	if e := s.Drop(number(8)); e != api.OK {
		t.Errorf("Drop = %d", e)
	}
	counts(t, s, api.MaxLSPs-1, false)
	put(t, s, more, 1, api.OK)
	counts(t, s, api.MaxLSPs, false)
	put(t, s, packet(t, number(8), 1, 9), 0, api.ErrFull)
	counts(t, s, api.MaxLSPs, true)
	put(t, s, packet(t, number(8), 1, 9), 0, api.ErrFull)
	counts(t, s, api.MaxLSPs, true)
}

// What ages out makes room, too; what only comes to its end doesn't.
func TestRefusedTillOneAgesOut(t *testing.T) {
	s := full(t)
	put(t, s, packet(t, last, 1, 9), 0, api.ErrFull)
	age(t, s, 59)
	counts(t, s, api.MaxLSPs, true)
	age(t, s, 1)
	counts(t, s, api.MaxLSPs/2, false)
	put(t, s, packet(t, last, 1, 9), 1, api.OK)
	counts(t, s, api.MaxLSPs/2+1, false)
}

// One that was dropped ahead of the refusal doesn't count.
func TestRefusedSinceOneWasDropped(t *testing.T) {
	s := full(t)
	s.Drop(number(0))
	counts(t, s, api.MaxLSPs-1, false)
	put(t, s, packet(t, number(0), 1, 9), 1, api.OK)
	put(t, s, packet(t, last, 1, 9), 0, api.ErrFull)
	counts(t, s, api.MaxLSPs, true)
}

func TestNil(t *testing.T) {
	var s *store.Store
	holdsNot(t, s, first)
	counts(t, s, 0, false)
	if e := s.Drop(first); e != api.ErrNone {
		t.Errorf("Drop of nil = %d", e)
	}
	for _, ticks := range []int{0, 1, 65535} {
		if list, e := s.Age(ticks); len(list) != 0 || e != api.ErrNone {
			t.Errorf("Age(%d) of nil = %v, %d", ticks, list, e)
		}
	}
	s = store.New()
	counts(t, s, 0, false)
	age(t, s, 65535)
	if list := s.List(last, first); len(list) != 0 {
		t.Errorf("List = %v", list)
	}
}

// told is an LSP as a model holds it.
type told struct {
	b     []byte
	entry api.Entry
	end   int // when its Life comes or came to 0, or when it was put without one
}

// model is a store that is as slow as it is plain.
type model struct {
	now     int
	list    []told
	refused bool
}

// place answers where the LSP id stands; -1: nowhere.
func (m *model) place(id api.LSPID) int {
	return slices.IndexFunc(m.list, func(x told) bool { return x.entry.ID == id })
}

// purge tells as a number whether there is no Life.
func purge(e api.Entry) int {
	if e.Life == 0 {
		return 1
	}
	return 0
}

// without answers all bytes but the Life's.
func without(b []byte) []byte {
	return slices.Concat(b[:10], b[12:])
}

func (m *model) put(b []byte) (int, api.Errno) {
	p, e := pdu.Read(b)
	if e != api.OK {
		return 0, e
	}
	x := told{b, api.Entry{ID: p.ID, Seq: p.Seq, Life: p.Life, Sum: sumOf(b)}, m.now + p.Life}
	i := m.place(p.ID)
	if i < 0 && len(m.list) == api.MaxLSPs {
		m.refused = true
		return 0, api.ErrFull
	}
	if i < 0 {
		m.list = append(m.list, x)
		slices.SortFunc(m.list, func(a, b told) int { return bytes.Compare(a.b[12:20], b.b[12:20]) })
		return 1, api.OK
	}
	is := m.list[i]
	rel := cmp.Or(cmp.Compare(x.entry.Seq, is.entry.Seq), cmp.Compare(purge(x.entry), purge(is.entry)), cmp.Compare(x.entry.Sum, is.entry.Sum), bytes.Compare(without(b), without(is.b)))
	if rel > 0 {
		m.list[i] = x
	}
	return rel, api.OK
}

// age goes tick by tick.
func (m *model) age(ticks int) []api.LSPID {
	var ended []api.LSPID
	for range ticks {
		m.now++
		var kept []told
		for _, x := range m.list {
			if x.entry.Life > 0 {
				x.entry.Life--
				if x.entry.Life == 0 {
					ended = append(ended, x.entry.ID)
				}
			}
			if m.now-x.end < api.ZeroAge {
				kept = append(kept, x)
			}
		}
		m.refused = m.refused && len(kept) == len(m.list)
		m.list = kept
	}
	slices.SortFunc(ended, func(a, b api.LSPID) int {
		return cmp.Or(bytes.Compare(a.Node.Sys[:], b.Node.Sys[:]), cmp.Compare(a.Node.Pseudo, b.Node.Pseudo), cmp.Compare(a.Frag, b.Frag))
	})
	return ended
}

func (m *model) drop(id api.LSPID) api.Errno {
	i := m.place(id)
	if i < 0 {
		return api.ErrNone
	}
	m.list = slices.Delete(m.list, i, i+1)
	m.refused = false
	return api.OK
}

// same looks at whether the store tells what the model does.
func same(t *testing.T, s *store.Store, m *model) {
	t.Helper()
	var want []api.Entry
	for _, x := range m.list {
		want = append(want, x.entry)
	}
	if got := s.List(first, last); !slices.Equal(got, want) || s.Len() != len(want) || s.Refused() != m.refused {
		t.Fatalf("List = %v, Len = %d, Refused = %t; want %v, %t", got, s.Len(), s.Refused(), want, m.refused)
	}
}

// The store against the model, with few IDs and with more than there is room for.
func TestAgainstModel(t *testing.T) {
	for seed := range 30 {
		r := rand.New(rand.NewSource(int64(1200 + seed)))
		ids, lives := 1+r.Intn(1<<r.Intn(11)), 2+r.Intn(200)
		s, m := store.New(), &model{}
		for range 1500 {
			id := number(r.Intn(ids))
			switch r.Intn(40) {
			case 0:
				if e, f := s.Drop(id), m.drop(id); e != f {
					t.Fatalf("Drop(%v) = %d; want %d", id, e, f)
				}
				same(t, s, m)
			case 1:
				ticks := r.Intn(1 + r.Intn(90))
				age(t, s, ticks, m.age(ticks)...)
				same(t, s, m)
			default:
				b := packet(t, id, uint32(r.Intn(4)), r.Intn(lives)*r.Intn(4)/3, byte(-r.Intn(2)), byte(r.Intn(3)))
				want, f := m.put(b)
				put(t, s, b, want, f)
			}
			if i := m.place(id); i >= 0 {
				holds(t, s, m.list[i].b, m.list[i].entry.Life)
			} else {
				holdsNot(t, s, id)
			}
		}
		same(t, s, m)
	}
}

// What holds everywhere: P1, P2, memory.

func TestMemory(t *testing.T) {
	s, id := store.New(), number(4)
	b := packet(t, id, 1, 50, 1, 2, 3)
	kept := bytes.Clone(b)
	room := append(bytes.Clone(b), 7, 7, 7)
	put(t, s, room[:len(b)], 1, api.OK)
	age(t, s, 1)
	if !bytes.Equal(room, append(bytes.Clone(kept), 7, 7, 7)) {
		t.Errorf("what was handed in became %x", room)
	}
	fill(room)
	holds(t, s, kept, 49)
	one, _, _ := s.Get(id)
	two, _, _ := s.Get(id)
	was := bytes.Clone(two)
	fill(one)
	if !bytes.Equal(two, was) {
		t.Errorf("two answers share memory: %x", two)
	}
	holds(t, s, kept, 49)
	age(t, s, 1)
	if !bytes.Equal(two, was) {
		t.Errorf("an answer became %x as time went by", two)
	}
	list, other := s.List(first, last), s.List(first, last)
	for i := range list[:cap(list)] {
		list[:cap(list)][i] = api.Entry{Seq: 9}
	}
	if other[0].Seq != 1 {
		t.Errorf("two answers share memory: %v", other)
	}
	holds(t, s, kept, 48)
}

// fill writes over a list, its spare room too.
func fill(p []byte) {
	p = p[:cap(p)]
	for i := range p {
		p[i] = 0xee
	}
}

// Each store is one of its own.
func TestTwoStores(t *testing.T) {
	a, b := store.New(), store.New()
	put(t, a, packet(t, first, 1, 5), 1, api.OK)
	counts(t, b, 0, false)
	age(t, b, 9)
	holds(t, a, packet(t, first, 1, 5), 5)
}

func TestNothingPanics(t *testing.T) {
	r := rand.New(rand.NewSource(1299))
	for _, s := range []*store.Store{nil, store.New(), full(t)} {
		good := packet(t, last, 1, 9, 1, 2, 3)
		for range 2000 {
			b := bytes.Clone(good[:r.Intn(len(good)+1)])
			for range r.Intn(3) {
				if len(b) > 0 {
					b[r.Intn(len(b))] = byte(r.Intn(256))
				}
			}
			s.Put(b)
		}
		for _, ticks := range []int{math.MinInt, -1, 0, 1, math.MaxInt} {
			s.Age(ticks)
		}
		for _, id := range []api.LSPID{first, last, number(1)} {
			s.Get(id)
			s.List(id, last)
			s.List(last, id)
			s.Compare(api.Entry{ID: id, Life: -1})
			s.Drop(id)
		}
		s.Len()
		s.Refused()
	}
}
