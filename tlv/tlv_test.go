package tlv_test

import (
	"bytes"
	"math/rand"
	"reflect"
	"testing"

	"waymark/api"
	"waymark/tlv"
)

// value answers so many bytes.
func value(count int) []byte {
	return bytes.Repeat([]byte{0x77}, count)
}

// same tells whether two lists are the same, nil and empty values too.
func same(a, b []api.TLV) bool {
	if len(a) != len(b) {
		return false
	}
	for i := range a {
		if a[i].Type != b[i].Type || !bytes.Equal(a[i].Value, b[i].Value) {
			return false
		}
	}
	return true
}

// P4.1

func TestJoinAndSplit(t *testing.T) {
	for _, c := range []struct {
		list []api.TLV
		p    []byte
	}{
		{nil, nil},
		{[]api.TLV{}, []byte{}},
		{[]api.TLV{{Type: 1, Value: []byte("ab")}, {Type: 9}}, []byte{1, 2, 'a', 'b', 9, 0}},
		{[]api.TLV{{}}, []byte{0, 0}},
		{[]api.TLV{{Type: 255, Value: []byte{}}}, []byte{255, 0}},
		{[]api.TLV{{Type: 9}, {Type: 1, Value: []byte("ab")}}, []byte{9, 0, 1, 2, 'a', 'b'}}, // in order
		{[]api.TLV{{Type: 3, Value: []byte{7}}, {Type: 3, Value: []byte{7}}}, []byte{3, 1, 7, 3, 1, 7}},
		{[]api.TLV{{Type: 2, Value: value(254)}}, append([]byte{2, 254}, value(254)...)},
		{[]api.TLV{{Type: 2, Value: value(255)}}, append([]byte{2, 255}, value(255)...)},
		{[]api.TLV{{Type: 2, Value: value(128)}, {Type: 4}}, append(append([]byte{2, 128}, value(128)...), 4, 0)},
	} {
		if p, e := tlv.Join(c.list); !bytes.Equal(p, c.p) || e != api.OK {
			t.Errorf("Join(%v) = %x, %d; want %x", c.list, p, e, c.p)
		}
		if list, e := tlv.Split(c.p); !same(list, c.list) || e != api.OK {
			t.Errorf("Split(%x) = %v, %d; want %v", c.p, list, e, c.list)
		}
	}
}

func TestJoinTooLong(t *testing.T) {
	long := func(values ...int) []api.TLV {
		var list []api.TLV
		for _, n := range values {
			list = append(list, api.TLV{Type: 1, Value: value(n)})
		}
		return list
	}
	for _, c := range []struct {
		list []api.TLV
		e    api.Errno
	}{
		{long(255), api.OK},
		{long(256), api.ErrLong},
		{long(257), api.ErrLong},
		{long(1 << 16), api.ErrLong},
		{long(3, 256, 3), api.ErrLong},
		{long(3, 3, 511), api.ErrLong},
		{long(255, 255, 255, 255, 255, 205), api.OK}, // 1492 bytes
		{long(255, 255, 255, 255, 255, 206), api.ErrLong},
		{long(255, 255, 255, 255, 255, 203, 0), api.OK},
		{long(255, 255, 255, 255, 255, 204, 0), api.ErrLong},
		{long(255, 255, 255, 255, 255, 255), api.ErrLong},
		{make([]api.TLV, 746), api.OK},
		{make([]api.TLV, 747), api.ErrLong},
		{make([]api.TLV, 100000), api.ErrLong},
	} {
		p, e := tlv.Join(c.list)
		if e != c.e || e != api.OK && p != nil {
			t.Errorf("Join of %d: %d bytes, %d; want %d", len(c.list), len(p), e, c.e)
		}
	}
}

func TestSplitErrors(t *testing.T) {
	for _, p := range [][]byte{
		{1}, {1, 2, 'a'}, {1, 1}, {1, 255}, {0, 0, 0}, {9, 0, 1}, {1, 1, 7, 1, 1}, {1, 2, 7, 7, 1, 2, 7},
		append([]byte{1, 255}, value(254)...),
		[]byte{1, 2, 'a', 'b'}[:3], // spare room isn't in p
		append(make([]byte, api.MaxPDU-1), 7),
		append(make([]byte, api.MaxPDU-2), 7, 1),
		make([]byte, api.MaxPDU-1),
	} {
		if list, e := tlv.Split(p); list != nil || e != api.ErrForm {
			t.Errorf("Split(%x) = %v, %d", p, list, e)
		}
	}
	if list, e := tlv.Split(make([]byte, api.MaxPDU)); len(list) != api.MaxPDU/2 || e != api.OK {
		t.Errorf("Split of MaxPDU noughts: %d, %d", len(list), e)
	}
	for _, size := range []int{api.MaxPDU + 1, api.MaxPDU + 2, 100000} { // of an odd number ErrForm applies, too
		if list, e := tlv.Split(make([]byte, size)); list != nil || e != api.ErrLong {
			t.Errorf("Split of %d noughts: %d, %d", size, len(list), e)
		}
	}
}

func TestOf(t *testing.T) {
	list := []api.TLV{{Type: 1, Value: []byte("ab")}, {Type: 9}, {Type: 1}, {Type: 2, Value: []byte("c")}, {Type: 1, Value: value(300)}, {Value: []byte("d")}, {Type: 1, Value: []byte("ab")}}
	for _, c := range []struct {
		kind byte
		want [][]byte
	}{
		{1, [][]byte{[]byte("ab"), {}, value(300), []byte("ab")}},
		{9, [][]byte{{}}},
		{2, [][]byte{[]byte("c")}},
		{0, [][]byte{[]byte("d")}},
		{3, nil},
		{255, nil},
	} {
		values := tlv.Of(list, c.kind)
		if len(values) != len(c.want) {
			t.Errorf("Of(.., %d) = %x; want %x", c.kind, values, c.want)
			continue
		}
		for i := range values {
			if !bytes.Equal(values[i], c.want[i]) {
				t.Errorf("Of(.., %d) = %x; want %x", c.kind, values, c.want)
			}
		}
	}
	if len(tlv.Of(nil, 0)) != 0 || len(tlv.Of([]api.TLV{}, 0)) != 0 {
		t.Error("Of none is none")
	}
}

func TestThereAndBack(t *testing.T) {
	r := rand.New(rand.NewSource(1))
	for range 2000 {
		var list []api.TLV
		size := 0
		for range r.Intn(20) {
			v := make([]byte, r.Intn(256)>>r.Intn(8))
			if size += 2 + len(v); size > api.MaxPDU {
				break
			}
			r.Read(v)
			list = append(list, api.TLV{Type: byte(r.Intn(256)), Value: v})
		}
		p, e := tlv.Join(list)
		if e != api.OK {
			t.Fatal(list, e)
		}
		if got, e := tlv.Split(p); !same(got, list) || e != api.OK {
			t.Fatalf("Split(Join(%v)) = %v, %d", list, got, e)
		}
		// Other bytes: what can be split is joined again to the same ones.
		for i := range p {
			p[i] += byte(r.Intn(20) / 19)
		}
		if got, e := tlv.Split(p); e == api.OK {
			if again, e := tlv.Join(got); !bytes.Equal(again, p) || e != api.OK {
				t.Fatalf("Join(Split(%x)) = %x, %d", p, again, e)
			}
		} else if e != api.ErrForm || got != nil {
			t.Fatalf("Split(%x) = %v, %d", p, got, e)
		}
	}
}

// What holds everywhere: memory.

// spoil writes over a list, its values and all spare room.
func spoil(list []api.TLV) {
	for _, t := range list {
		spoilBytes(t.Value)
	}
	list = list[:cap(list)]
	for i := range list {
		list[i] = api.TLV{Type: 0xee, Value: []byte{0xee}}
	}
}

func spoilBytes(p []byte) {
	p = p[:cap(p)]
	for i := range p {
		p[i] = 0xee
	}
}

func example() []api.TLV {
	return []api.TLV{{Type: 1, Value: []byte("abcdefgh")}, {Type: 9}, {Type: 1, Value: []byte("ijklmn")}, {Type: 7, Value: []byte("o")}}
}

func TestHandedInIsLeft(t *testing.T) {
	room := []byte("abcdefghijkl")
	list := append(make([]api.TLV, 0, 9), api.TLV{Type: 1, Value: room[:2]}, api.TLV{Type: 1, Value: room[4:6]})
	tlv.Join(list)
	tlv.Of(list, 1)
	if string(room) != "abcdefghijkl" || !same(list[:3], []api.TLV{{Type: 1, Value: []byte("ab")}, {Type: 1, Value: []byte("ef")}, {}}) {
		t.Error("what was handed in has changed")
	}
	p := []byte{1, 2, 'a', 'b', 9, 0, 3, 3}
	tlv.Split(p[:6])
	if !bytes.Equal(p, []byte{1, 2, 'a', 'b', 9, 0, 3, 3}) {
		t.Error("what was handed in has changed")
	}
}

func TestAnswersAreNewMemory(t *testing.T) {
	list := example()
	p, _ := tlv.Join(list)
	earlier := bytes.Clone(p)
	spoil(list)
	if !bytes.Equal(p, earlier) {
		t.Error("Join's answer shares memory with its argument")
	}

	split, _ := tlv.Split(p)
	again, _ := tlv.Split(p)
	spoilBytes(p)
	if !same(split, example()) {
		t.Error("Split's answer shares memory with its argument")
	}
	spoil(again)
	if !same(split, example()) {
		t.Error("Split's answer shares memory with an earlier one")
	}
	for i := range split {
		spoilBytes(split[i].Value)
		for j := i + 1; j < len(split); j++ {
			if !bytes.Equal(split[j].Value, example()[j].Value) {
				t.Error("two values of Split's answer share memory")
			}
		}
	}

	list = example()
	values, other := tlv.Of(list, 1), tlv.Of(list, 1)
	spoilBytes(other[0])
	spoil(list)
	want := [][]byte{[]byte("abcdefgh"), []byte("ijklmn")}
	if !reflect.DeepEqual(values, want) {
		t.Errorf("Of's answer shares memory: %q", values)
	}
	spoilBytes(values[0])
	if string(values[1]) != "ijklmn" {
		t.Error("two values of Of's answer share memory")
	}
}
