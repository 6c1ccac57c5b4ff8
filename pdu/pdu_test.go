package pdu_test

import (
	"bytes"
	"encoding/hex"
	"math"
	"math/rand"
	"reflect"
	"slices"
	"strings"
	"testing"

	"waymark/api"
	"waymark/octet"
	"waymark/pdu"
)

// raw answers the bytes that stand in the text to the base 16.
func raw(text string) []byte {
	p, err := hex.DecodeString(strings.ReplaceAll(text, " ", ""))
	if err != nil {
		panic(err)
	}
	return p
}

var kinds = []byte{15, 16, 17, 18, 20, 24, 25, 26, 27}

var (
	one  = api.Node{Sys: api.SysID{1, 2, 3, 4, 5, 6}}
	two  = api.Node{Sys: api.SysID{0xa1, 0xa2, 0xa3, 0xa4, 0xa5, 0xa6}, Pseudo: 0xa7}
	low  = api.LSPID{Node: api.Node{Sys: api.SysID{0x11, 0x12, 0x13, 0x14, 0x15, 0x16}, Pseudo: 0x17}, Frag: 0x18}
	high = api.LSPID{Node: api.Node{Sys: api.SysID{0x21, 0x22, 0x23, 0x24, 0x25, 0x26}, Pseudo: 0x27}, Frag: 0x28}
)

var area = []api.TLV{{Type: 1, Value: []byte{2, 0x49, 1}}, {Type: 9}}

// cases: each has its bytes, place by place as the chapter's table says.
var cases = []struct {
	x pdu.PDU
	p string
}{
	{pdu.PDU{Kind: 17, Circuit: 3, Source: api.Node{Sys: api.SysID{5: 1}}, Hold: 10, Number: 1},
		"83 14 01 00 11 01 00 00 03 000000000001 000a 0014 01"},
	{pdu.PDU{Kind: 17, Circuit: 1, Source: one, Hold: 65535, Number: 255, TLVs: area},
		"83 14 01 00 11 01 00 00 01 010203040506 ffff 001b ff 01 03 024901 09 00"},
	{pdu.PDU{Kind: 15, Circuit: 1, Source: one, Hold: 0x0102, Priority: 127, LAN: two},
		"83 1b 01 00 0f 01 00 00 01 010203040506 0102 001b 7f a1a2a3a4a5a6 a7"},
	{pdu.PDU{Kind: 16, Circuit: 2, Source: one, Hold: 0, Priority: 64, LAN: two, TLVs: area},
		"83 1b 01 00 10 01 00 00 02 010203040506 0000 0022 40 a1a2a3a4a5a6 a7 01 03 024901 09 00"},
	{pdu.PDU{Kind: 24, Source: two, Start: low, End: high},
		"83 21 01 00 18 01 00 00 0021 a1a2a3a4a5a6 a7 111213141516 17 18 212223242526 27 28"},
	{pdu.PDU{Kind: 25, Source: two, Start: low, End: high, TLVs: area},
		"83 21 01 00 19 01 00 00 0028 a1a2a3a4a5a6 a7 111213141516 17 18 212223242526 27 28 01 03 024901 09 00"},
	{pdu.PDU{Kind: 26, Source: two},
		"83 11 01 00 1a 01 00 00 0011 a1a2a3a4a5a6 a7"},
	{pdu.PDU{Kind: 27, Source: two, TLVs: area},
		"83 11 01 00 1b 01 00 00 0018 a1a2a3a4a5a6 a7 01 03 024901 09 00"},
}

// stateCases: the check bytes are left out: they stand where the text says "sum".
var stateCases = []struct {
	x pdu.PDU
	p string
}{
	{pdu.PDU{Kind: 18, Life: 1200, ID: low, Seq: 7, Bits: 1},
		"83 1b 01 00 12 01 00 00 001b 04b0 111213141516 17 18 00000007 sum 01"},
	{pdu.PDU{Kind: 20, Life: 65535, ID: high, Seq: 0x01020304, Bits: 0xff, TLVs: area},
		"83 1b 01 00 14 01 00 00 0022 ffff 212223242526 27 28 01020304 sum ff 01 03 024901 09 00"},
	{pdu.PDU{Kind: 18, Life: 0, ID: low, Seq: 1<<32 - 1},
		"83 1b 01 00 12 01 00 00 001b 0000 111213141516 17 18 ffffffff sum 00"},
}

// withSum answers the bytes of a case of stateCases.
func withSum(text string) []byte {
	p := raw(strings.Replace(text, "sum", "0000", 1))
	sum, e := octet.Sum(p[12:], 12)
	if e != api.OK {
		panic(e)
	}
	p[24], p[25] = byte(sum>>8), byte(sum)
	return p
}

// same tells whether two PDUs are the same, nil and empty lists too.
func same(a, b pdu.PDU) bool {
	if len(a.TLVs) != len(b.TLVs) {
		return false
	}
	for i := range a.TLVs {
		if a.TLVs[i].Type != b.TLVs[i].Type || !bytes.Equal(a.TLVs[i].Value, b.TLVs[i].Value) {
			return false
		}
	}
	a.TLVs, b.TLVs = nil, nil
	return reflect.DeepEqual(a, b)
}

// check looks whether p is the bytes of x.
func check(t *testing.T, x pdu.PDU, p []byte) {
	t.Helper()
	if got, e := pdu.Write(x); !bytes.Equal(got, p) || e != api.OK {
		t.Errorf("Write(%v) = %x, %d; want %x", x, got, e, p)
	}
	if got, e := pdu.Read(p); !same(got, x) || e != api.OK {
		t.Errorf("Read(%x) = %v, %d; want %v", p, got, e, x)
	}
}

// P6.1

func TestWriteAndRead(t *testing.T) {
	for _, c := range cases {
		check(t, c.x, raw(c.p))
	}
	for _, c := range stateCases {
		check(t, c.x, withSum(c.p))
	}
}

// full answers a PDU with something in each field.
func full(kind byte) pdu.PDU {
	return pdu.PDU{
		Kind: kind, Circuit: 2, Source: two, Hold: 300, Number: 5, Priority: 100, LAN: two,
		Life: 700, ID: low, Seq: 9, Bits: 13, Start: low, End: high, TLVs: area,
	}
}

// only answers what of x is told by its kind.
func only(x pdu.PDU) pdu.PDU {
	y := pdu.PDU{Kind: x.Kind, TLVs: x.TLVs}
	switch x.Kind {
	case 15, 16, 17:
		y.Circuit, y.Source, y.Hold = x.Circuit, api.Node{Sys: x.Source.Sys}, x.Hold
		if x.Kind == 17 {
			y.Number = x.Number
		} else {
			y.Priority, y.LAN = x.Priority, x.LAN
		}
	case 18, 20:
		y.Life, y.ID, y.Seq, y.Bits = x.Life, x.ID, x.Seq, x.Bits
	case 24, 25:
		y.Source, y.Start, y.End = x.Source, x.Start, x.End
	case 26, 27:
		y.Source = x.Source
	}
	return y
}

// Fields that the kind doesn't have aren't looked at, whatever stands in them, and are nought when read.
func TestOtherFields(t *testing.T) {
	for _, kind := range kinds {
		want, e := pdu.Write(only(full(kind)))
		if e != api.OK {
			t.Fatal(kind, e)
		}
		if p, e := pdu.Write(full(kind)); !bytes.Equal(p, want) || e != api.OK {
			t.Errorf("kind %d: %x, %d; want %x", kind, p, e, want)
		}
		if x, e := pdu.Read(want); !same(x, only(full(kind))) || e != api.OK {
			t.Errorf("kind %d: %v, %d", kind, x, e)
		}
		wrong := full(kind)
		switch kind {
		case 15, 16:
			wrong.Life = -1
		case 17:
			wrong.Priority, wrong.Life = 128, 65536
		case 18, 20:
			wrong.Circuit, wrong.Hold, wrong.Priority = 0, -1, 255
		default:
			wrong.Circuit, wrong.Hold, wrong.Priority, wrong.Life = 4, 65536, 128, -1
		}
		if p, e := pdu.Write(wrong); !bytes.Equal(p, want) || e != api.OK {
			t.Errorf("kind %d with fields of others out of range: %x, %d; want %x", kind, p, e, want)
		}
	}
}

func TestWriteWrongFields(t *testing.T) {
	known := map[byte]bool{}
	for _, kind := range kinds {
		known[kind] = true
	}
	long := api.TLV{Value: make([]byte, 256)}
	refuse := func(x pdu.PDU, want api.Errno) {
		t.Helper()
		x.TLVs = nil
		if p, e := pdu.Write(x); e != want || e != api.OK && len(p) > 0 {
			t.Errorf("Write(%v) = %x, %d; want %d", x, p, e, want)
		}
		x.TLVs = []api.TLV{long}
		want = min(want, api.ErrLong)
		if want == api.OK {
			want = api.ErrLong
		}
		if p, e := pdu.Write(x); e != want || len(p) > 0 {
			t.Errorf("Write(%v) = %x, %d; want %d", x, p, e, want)
		}
	}
	for kind := range 256 {
		if !known[byte(kind)] {
			refuse(full(byte(kind)), api.ErrArg)
		}
	}
	times := map[int]api.Errno{
		math.MinInt: api.ErrArg, -1: api.ErrArg, 0: api.OK, 1: api.OK, 255: api.OK, 256: api.OK, 65535: api.OK,
		65536: api.ErrArg, 65537: api.ErrArg, 1 << 32: api.ErrArg, math.MaxInt: api.ErrArg,
	}
	for _, kind := range []byte{15, 16, 17} {
		for circuit := range 256 {
			x := full(kind)
			x.Circuit = byte(circuit)
			if circuit < 1 || circuit > 3 {
				refuse(x, api.ErrArg)
			} else {
				refuse(x, api.OK)
			}
		}
		for hold, e := range times {
			x := full(kind)
			x.Hold = hold
			refuse(x, e)
		}
	}
	for _, kind := range []byte{15, 16} {
		for priority := range 256 {
			x := full(kind)
			x.Priority = byte(priority)
			if priority > 127 {
				refuse(x, api.ErrArg)
			} else {
				refuse(x, api.OK)
			}
		}
	}
	for _, kind := range []byte{18, 20} {
		for life, e := range times {
			x := full(kind)
			x.Life = life
			refuse(x, e)
		}
	}
}

// ahead answers how many bytes stand ahead of a kind's TLVs.
func ahead(kind byte) int {
	switch kind {
	case 17:
		return 20
	case 15, 16, 18, 20:
		return 27
	case 24, 25:
		return 33
	}
	return 17
}

// tlvs answers TLVs of so many bytes, 255 and a head at most each.
func tlvs(size int) []api.TLV {
	var list []api.TLV
	for size > 0 {
		n := min(size, 257)
		if size-n == 1 { // one byte is too few for the next one
			n--
		}
		list = append(list, api.TLV{Type: 8, Value: make([]byte, n-2)})
		size -= n
	}
	return list
}

func TestLengths(t *testing.T) {
	for _, kind := range kinds {
		room := api.MaxPDU - ahead(kind)
		for _, c := range []struct {
			size int
			e    api.Errno
		}{
			{0, api.OK}, {2, api.OK}, {300, api.OK}, {room - 1, api.OK}, {room, api.OK},
			{room + 1, api.ErrLong}, {room + 2, api.ErrLong}, {api.MaxPDU, api.ErrLong}, {api.MaxPDU + 1, api.ErrLong}, {9000, api.ErrLong},
		} {
			x := only(full(kind))
			x.TLVs = tlvs(c.size)
			p, e := pdu.Write(x)
			if e != c.e || e != api.OK && len(p) > 0 || e == api.OK && len(p) != ahead(kind)+c.size {
				t.Errorf("kind %d, %d bytes of TLVs: %d bytes, %d; want %d", kind, c.size, len(p), e, c.e)
			}
			if e == api.OK {
				if y, e := pdu.Read(p); !same(x, y) || e != api.OK {
					t.Errorf("kind %d, %d bytes of TLVs: read %d", kind, c.size, e)
				}
			}
		}
		x := only(full(kind))
		x.TLVs = []api.TLV{{Value: make([]byte, 255)}}
		if _, e := pdu.Write(x); e != api.OK {
			t.Errorf("kind %d: a value of 255 bytes: %d", kind, e)
		}
		x.TLVs = []api.TLV{{Value: make([]byte, 256)}}
		if p, e := pdu.Write(x); e != api.ErrLong || len(p) > 0 {
			t.Errorf("kind %d: a value of 256 bytes: %d", kind, e)
		}
	}
}

// setLength writes a PDU's length and, in an LSP, its check bytes anew.
func setLength(p []byte, kind byte) {
	at := 8
	if kind < 18 {
		at = 17
	}
	p[at], p[at+1] = byte(len(p)>>8), byte(len(p))
	if kind == 18 || kind == 20 {
		sum, _ := octet.Sum(p[12:], 12)
		p[24], p[25] = byte(sum>>8), byte(sum)
	}
}

func refuseRead(t *testing.T, p []byte, want api.Errno) {
	t.Helper()
	if x, e := pdu.Read(p); e != want || !reflect.DeepEqual(x, pdu.PDU{}) {
		t.Errorf("Read(%x) = %v, %d; want %d", p, x, e, want)
	}
}

func TestReadTooLong(t *testing.T) {
	refuseRead(t, make([]byte, 1492), api.ErrForm)
	refuseRead(t, make([]byte, 1493), api.ErrLong)
	for _, kind := range kinds {
		x := only(full(kind))
		x.TLVs = tlvs(api.MaxPDU - ahead(kind))
		p, _ := pdu.Write(x)
		p = append(p, 8, 0)
		setLength(p, kind)
		refuseRead(t, p, api.ErrLong)
	}
}

func TestReadNotOfTheForm(t *testing.T) {
	refuseRead(t, nil, api.ErrForm)
	refuseRead(t, []byte{}, api.ErrForm)
	for _, kind := range kinds {
		good, _ := pdu.Write(full(kind))
		for n := range good { // its beginning alone, with its own length too
			refuseRead(t, good[:n], api.ErrForm)
			p := bytes.Clone(good[:n])
			if n > 26 || kind != 18 && kind != 20 && n > 18 {
				setLength(p, kind)
			}
			if n != ahead(kind) && n != ahead(kind)+5 {
				refuseRead(t, p, api.ErrForm)
			}
		}
		refuseRead(t, append(bytes.Clone(good), 0), api.ErrForm)
		refuseRead(t, append(bytes.Clone(good), 9, 0), api.ErrForm) // a TLV that the length doesn't count
		for at := range 8 {
			for turned := 1; turned < 256; turned++ {
				p := bytes.Clone(good)
				p[at] ^= byte(turned)
				if at == 4 && ahead(p[4]) == ahead(kind) && (kind < 18) == (p[4] < 18) && (p[4]^kind == 12 || bytes.IndexByte(kinds, p[4]) >= 0) {
					continue // another kind of the same form
				}
				refuseRead(t, p, api.ErrForm)
			}
		}
		for _, by := range []int{-1, 1, 256, -256} { // a length that isn't that of p
			p := bytes.Clone(good)
			at := 8
			if kind < 18 {
				at = 17
			}
			n := len(p) + by
			p[at], p[at+1] = byte(n>>8), byte(n)
			refuseRead(t, p, api.ErrForm)
		}
		p := bytes.Clone(good)
		p[len(p)-1]++ // the last TLV says that a byte follows
		refuseRead(t, p, api.ErrForm)
		setLength(p, kind)
		refuseRead(t, p, api.ErrForm)
		p = append(p, 0) // and now one does
		setLength(p, kind)
		if x, e := pdu.Read(p); e != api.OK || len(x.TLVs) != 2 || !bytes.Equal(x.TLVs[1].Value, []byte{0}) {
			t.Error(kind, x, e)
		}
	}
}

func TestReadWrongFields(t *testing.T) {
	for _, kind := range []byte{15, 16, 17} {
		good, _ := pdu.Write(full(kind))
		for circuit := range 256 {
			p := bytes.Clone(good)
			p[8] = byte(circuit)
			if 1 <= circuit && circuit <= 3 {
				if x, e := pdu.Read(p); x.Circuit != byte(circuit) || e != api.OK {
					t.Error(kind, circuit, x, e)
				}
			} else {
				refuseRead(t, p, api.ErrForm)
			}
		}
		for b := range 256 {
			p := bytes.Clone(good)
			p[19] = byte(b) // the number, or the priority
			if kind == 17 || b <= 127 {
				if x, e := pdu.Read(p); x.Number+x.Priority != byte(b) || e != api.OK {
					t.Error(kind, b, x, e)
				}
			} else {
				refuseRead(t, p, api.ErrForm)
			}
		}
	}
}

func TestCheckBytes(t *testing.T) {
	for _, kind := range []byte{18, 20} {
		good, _ := pdu.Write(full(kind))
		for at := 12; at < 27; at++ {
			p := bytes.Clone(good)
			p[at] ^= 1
			refuseRead(t, p, api.ErrSum)
		}
		p := bytes.Clone(good)
		p[27] ^= 2 // a TLV's type
		refuseRead(t, p, api.ErrSum)
		p[28] ^= 1 // TLVs that are none: the lesser number
		refuseRead(t, p, api.ErrForm)
		for life := range 65536 {
			if life%251 > 2 {
				continue
			}
			p := bytes.Clone(good)
			p[10], p[11] = byte(life>>8), byte(life)
			want := only(full(kind))
			want.Life = life
			if x, e := pdu.Read(p); !same(x, want) || e != api.OK {
				t.Error(life, x, e)
			}
		}
		purge := full(kind)
		purge.Life = 0
		p, _ = pdu.Write(purge)
		p[24] ^= 1
		refuseRead(t, p, api.ErrSum)
		p[24], p[25] = 0, 0
		refuseRead(t, p, api.ErrSum)
		// 0 and 255 are the same to the sums, but not as check bytes.
		for seq := range uint32(3000) {
			x := full(kind)
			x.Seq = seq
			p, _ := pdu.Write(x)
			if p[24] != 255 && p[25] != 255 {
				continue
			}
			if p[24] == 255 {
				p[24] = 0
			} else {
				p[25] = 0
			}
			refuseRead(t, p, api.ErrSum)
		}
	}
}

func TestAnyPDU(t *testing.T) {
	r := rand.New(rand.NewSource(61))
	for range 5000 {
		x := somePDU(r)
		p, e := pdu.Write(x)
		if e != api.OK {
			t.Fatal(x, e)
		}
		if again, e := pdu.Write(x); !bytes.Equal(p, again) || e != api.OK {
			t.Fatal(x, p, again)
		}
		if y, e := pdu.Read(p); !same(y, only(x)) || e != api.OK {
			t.Fatal(x, y, e)
		}
		for range 5 { // whatever of turned bytes can be read is written as just these
			q := bytes.Clone(p)
			q[r.Intn(len(q))] ^= 1 << r.Intn(8)
			if r.Intn(4) == 0 {
				setLength(q, x.Kind)
			}
			if y, e := pdu.Read(q); e == api.OK {
				if z, e := pdu.Write(y); !bytes.Equal(z, q) || e != api.OK {
					t.Fatalf("%x was read, and written as %x", q, z)
				}
			} else if !reflect.DeepEqual(y, pdu.PDU{}) || e != api.ErrForm && e != api.ErrSum {
				t.Fatal(y, e)
			}
		}
	}
}

// somePDU answers a PDU that can be written.
func somePDU(r *rand.Rand) pdu.PDU {
	id := func() (x api.LSPID) {
		r.Read(x.Node.Sys[:])
		x.Node.Pseudo, x.Frag = byte(r.Uint32()), byte(r.Uint32())
		return x
	}
	x := pdu.PDU{
		Kind: kinds[r.Intn(len(kinds))], Circuit: byte(1 + r.Intn(3)), Source: id().Node, Hold: r.Intn(65536),
		Number: byte(r.Uint32()), Priority: byte(r.Intn(128)), LAN: id().Node, Life: r.Intn(65536), ID: id(),
		Seq: r.Uint32(), Bits: byte(r.Uint32()), Start: id(), End: id(),
	}
	for range r.Intn(4) {
		v := make([]byte, r.Intn(40))
		r.Read(v)
		x.TLVs = append(x.TLVs, api.TLV{Type: byte(r.Uint32()), Value: v})
	}
	return x
}

func TestAnyBytes(t *testing.T) {
	r := rand.New(rand.NewSource(62))
	for range 20000 {
		p := make([]byte, r.Intn(60))
		r.Read(p)
		if len(p) > 8 && r.Intn(2) == 0 {
			kind := kinds[r.Intn(len(kinds))]
			copy(p, []byte{0x83, byte(ahead(kind)), 1, 0, kind, 1, 0, 0})
		}
		x, e := pdu.Read(p)
		if e == api.OK {
			if q, e := pdu.Write(x); !bytes.Equal(q, p) || e != api.OK {
				t.Fatalf("%x was read, and written as %x", p, q)
			}
		}
	}
}

// P6.2

var entryCases = []struct {
	list []api.Entry
	p    string
}{
	{nil, ""},
	{[]api.Entry{}, ""},
	{[]api.Entry{{}}, "0000 000000000000 00 00 00000000 0000"},
	{[]api.Entry{{ID: low, Seq: 0x31323334, Life: 0x4142, Sum: 0x5152}}, "4142 111213141516 17 18 31323334 5152"},
	{[]api.Entry{{ID: high, Seq: 1<<32 - 1, Life: 65535, Sum: 65535}, {ID: low, Life: 0, Seq: 1, Sum: 2}},
		"ffff 212223242526 27 28 ffffffff ffff 0000 111213141516 17 18 00000001 0002"}, // in order
}

func TestEntries(t *testing.T) {
	for _, c := range entryCases {
		if p, e := pdu.PutEntries(c.list); !bytes.Equal(p, raw(c.p)) || e != api.OK {
			t.Errorf("PutEntries(%v) = %x, %d; want %s", c.list, p, e, c.p)
		}
		if list, e := pdu.GetEntries(raw(c.p)); !slices.Equal(list, c.list) || e != api.OK {
			t.Errorf("GetEntries(%s) = %v, %d; want %v", c.p, list, e, c.list)
		}
	}
}

func TestPutEntriesErrors(t *testing.T) {
	good := api.Entry{ID: low, Seq: 1, Life: 2, Sum: 3}
	life := func(n int) api.Entry {
		return api.Entry{ID: low, Seq: 1, Life: n, Sum: 3}
	}
	for _, c := range []struct {
		list []api.Entry
		e    api.Errno
	}{
		{slices.Repeat([]api.Entry{good}, 14), api.OK},
		{slices.Repeat([]api.Entry{good}, 15), api.OK},
		{slices.Repeat([]api.Entry{good}, 16), api.ErrLong},
		{slices.Repeat([]api.Entry{good}, 1000), api.ErrLong},
		{[]api.Entry{life(65535)}, api.OK},
		{[]api.Entry{life(65536)}, api.ErrArg},
		{[]api.Entry{life(-1)}, api.ErrArg},
		{[]api.Entry{life(math.MinInt)}, api.ErrArg},
		{[]api.Entry{life(math.MaxInt)}, api.ErrArg},
		{[]api.Entry{good, good, life(-1)}, api.ErrArg},
		{[]api.Entry{life(65536), good}, api.ErrArg},
		{append(slices.Repeat([]api.Entry{good}, 15), life(-1)), api.ErrArg},
		{append(slices.Repeat([]api.Entry{good}, 999), life(65536)), api.ErrArg},
	} {
		p, e := pdu.PutEntries(c.list)
		if e != c.e || e != api.OK && len(p) > 0 || e == api.OK && len(p) != 16*len(c.list) {
			t.Errorf("PutEntries(%d entries) = %x, %d; want %d", len(c.list), p, e, c.e)
		}
	}
}

func TestGetEntriesErrors(t *testing.T) {
	for n := range 600 {
		want := api.OK
		switch {
		case n > 255:
			want = api.ErrLong
		case n%16 != 0:
			want = api.ErrForm
		}
		list, e := pdu.GetEntries(make([]byte, n))
		if e != want || e != api.OK && len(list) > 0 || e == api.OK && len(list) != n/16 {
			t.Errorf("GetEntries(%d bytes): %d entries, %d; want %d", n, len(list), e, want)
		}
	}
}

func TestEntriesAreGotAgain(t *testing.T) {
	r := rand.New(rand.NewSource(63))
	for range 1000 {
		list := make([]api.Entry, r.Intn(16))
		for i := range list {
			x := somePDU(r)
			list[i] = api.Entry{ID: x.ID, Seq: x.Seq, Life: x.Life, Sum: uint16(r.Uint32())}
		}
		p, e := pdu.PutEntries(list)
		if got, f := pdu.GetEntries(p); !slices.Equal(got, list) || e != api.OK || f != api.OK {
			t.Fatal(list, p, got, e, f)
		}
	}
}

// What is handed in is neither changed nor kept, and no answer shares memory with another one.
func TestMemory(t *testing.T) {
	for _, kind := range kinds {
		x := only(full(kind))
		x.TLVs = []api.TLV{{Type: 1, Value: []byte{1, 2, 3}}, {Type: 2, Value: []byte{4, 5}}}
		want := only(full(kind))
		want.TLVs = []api.TLV{{Type: 1, Value: []byte{1, 2, 3}}, {Type: 2, Value: []byte{4, 5}}}
		p, _ := pdu.Write(x)
		other, _ := pdu.Write(x)
		kept := bytes.Clone(p)
		fill(other)
		if !same(x, want) || !bytes.Equal(p, kept) {
			t.Fatal("what was handed in, or an earlier answer, has changed")
		}
		fill(x.TLVs[0].Value)
		if !bytes.Equal(p, kept) {
			t.Fatal("the bytes hang on the TLVs")
		}
		room := bytes.Repeat([]byte{0xee}, 100)
		in := append(room[:0], p...)
		y, _ := pdu.Read(in)
		z, _ := pdu.Read(in)
		if !bytes.Equal(in, p) || !bytes.Equal(room[len(p):], bytes.Repeat([]byte{0xee}, 100-len(p))) {
			t.Fatal("what was handed in has changed")
		}
		fill(in)
		fill(z.TLVs[0].Value)
		if !same(y, want) {
			t.Fatal("what was read hangs on the bytes, or on another answer")
		}
		fill(y.TLVs[0].Value)
		if !bytes.Equal(y.TLVs[1].Value, []byte{4, 5}) {
			t.Fatal("two values share memory")
		}
	}
	p, _ := pdu.PutEntries([]api.Entry{{ID: low, Seq: 1, Life: 2, Sum: 3}})
	list, _ := pdu.GetEntries(p)
	fill(p)
	if list[0] != (api.Entry{ID: low, Seq: 1, Life: 2, Sum: 3}) {
		t.Fatal("the entries hang on the bytes")
	}
}

// fill writes over p and its spare room.
func fill(p []byte) {
	p = p[:cap(p)]
	for i := range p {
		p[i] = 0x99
	}
}
