package lsp_test

import (
	"bytes"
	"encoding/hex"
	"math"
	"math/rand"
	"reflect"
	"slices"
	"strings"
	"testing"

	"waymark/api"
	"waymark/lsp"
	"waymark/pdu"
	"waymark/prefix"
	"waymark/reach"
)

// raw answers the bytes that stand in the text to the base 16.
func raw(text string) []byte {
	p, err := hex.DecodeString(strings.ReplaceAll(text, " ", ""))
	if err != nil {
		panic(err)
	}
	return p
}

// tlv answers a TLV whose value stands in the text to the base 16.
func tlv(kind byte, text string) api.TLV {
	return api.TLV{Type: kind, Value: raw(text)}
}

// told answers a prefix that is reached.
func told(text string, metric uint32, down bool) api.Reach {
	p, e := prefix.Parse(text)
	if e != api.OK {
		panic(text)
	}
	return api.Reach{Prefix: p, Metric: metric, Down: down}
}

// to answers an edge.
func to(last, pseudo byte, metric uint32) api.Edge {
	return api.Edge{To: api.Node{Sys: api.SysID{5: last}, Pseudo: pseudo}, Metric: metric}
}

var id = api.LSPID{Node: api.Node{Sys: api.SysID{1, 2, 3, 4, 5, 6}, Pseudo: 7}, Frag: 8}

// full answers an LSP that tells something of each kind.
func full(level int) api.LSP {
	return api.LSP{
		Level: level, ID: id, Seq: 0x01020304, Life: 1200, Overload: true, Attached: [2]bool{true, true},
		Areas: [][]byte{{0x49, 1}, {0x47}},
		Host:  "r1",
		Edges: [2][]api.Edge{{to(1, 2, 10), to(2, 0, api.MaxLink)}, {to(3, 0, 5)}},
		Reach: [2][]api.Reach{{told("10.1.0.0/16", 5, true), told("0.0.0.0/0", 1<<32-1, false)}, {told("2001:db8::/32", 7, true)}},
	}
}

// fullTLVs answers what full tells, as the chapter's tables say it.
func fullTLVs() []api.TLV {
	return []api.TLV{
		tlv(1, "02 4901 01 47"),
		tlv(229, "4002"),
		tlv(137, "7231"),
		tlv(22, "000000000001 02 00000a 00  000000000002 00 ffffff 00"),
		tlv(222, "0002  000000000003 00 000005 00"),
		tlv(135, "00000005 90 0a01  ffffffff 00"),
		tlv(237, "0002  00000007 80 20 20010db8"),
	}
}

// samePDU tells whether two packets are the same, nil and empty lists too.
func samePDU(a, b pdu.PDU) bool {
	if !sameTLVs(a.TLVs, b.TLVs) {
		return false
	}
	a.TLVs, b.TLVs = nil, nil
	return reflect.DeepEqual(a, b)
}

func sameTLVs(a, b []api.TLV) bool {
	return slices.EqualFunc(a, b, func(x, y api.TLV) bool { return x.Type == y.Type && bytes.Equal(x.Value, y.Value) })
}

// sameLSP tells whether two LSPs are the same, nil and empty lists too.
func sameLSP(a, b api.LSP) bool {
	if !slices.EqualFunc(a.Areas, b.Areas, bytes.Equal) {
		return false
	}
	for t := range 2 {
		if !slices.Equal(a.Edges[t], b.Edges[t]) || !slices.Equal(a.Reach[t], b.Reach[t]) {
			return false
		}
	}
	a.Areas, a.Edges, a.Reach, b.Areas, b.Edges, b.Reach = nil, [2][]api.Edge{}, [2][]api.Reach{}, nil, [2][]api.Edge{}, [2][]api.Reach{}
	return reflect.DeepEqual(a, b)
}

// P7.1

func TestExamples(t *testing.T) {
	l := api.LSP{Level: 1, ID: api.LSPID{Node: api.Node{Sys: api.SysID{5: 1}}}, Seq: 1, Life: 1200, Areas: [][]byte{{0x49, 1}}}
	want := pdu.PDU{Kind: 18, ID: l.ID, Seq: 1, Life: 1200, Bits: 1, TLVs: []api.TLV{tlv(1, "024901")}}
	if p, e := lsp.Make(l); !samePDU(p, want) || e != api.OK {
		t.Errorf("%v, %d; want %v", p, e, want)
	}
	l.Attached, l.Overload = [2]bool{true, true}, true
	want.Bits, want.TLVs = 13, []api.TLV{tlv(1, "024901"), tlv(229, "4002")}
	if p, e := lsp.Make(l); !samePDU(p, want) || e != api.OK {
		t.Errorf("%v, %d; want %v", p, e, want)
	}
	if l, e := lsp.Read(pdu.PDU{Kind: 18, TLVs: []api.TLV{tlv(1, "034901")}}); e != api.ErrForm || !sameLSP(l, api.LSP{}) {
		t.Error(l, e)
	}
	if l, e := lsp.Read(pdu.PDU{Kind: 18, TLVs: []api.TLV{tlv(99, "01")}}); e != api.OK || !sameLSP(l, api.LSP{Level: 1}) {
		t.Error(l, e)
	}
}

func TestMakeAll(t *testing.T) {
	for level, kind := range map[int]byte{1: 18, 2: 20} {
		want := pdu.PDU{Kind: kind, Life: 1200, ID: id, Seq: 0x01020304, Bits: 12 + byte(level*2-1), TLVs: fullTLVs()}
		p, e := lsp.Make(full(level))
		if !samePDU(p, want) || e != api.OK {
			t.Errorf("level %d: %v, %d; want %v", level, p, e, want)
		}
		if l, e := lsp.Read(p); !sameLSP(l, full(level)) || e != api.OK {
			t.Errorf("level %d: %v, %d", level, l, e)
		}
	}
}

// Each TLV stands there just where there is something to tell, whatever else is told.
func TestMakeSome(t *testing.T) {
	for which := range 1 << 7 {
		l := full(2)
		var want []api.TLV
		leave := []func(){
			func() { l.Areas = [][]byte{} }, func() { l.Attached[1] = false }, func() { l.Host = "" },
			func() { l.Edges[0] = nil }, func() { l.Edges[1] = []api.Edge{} }, func() { l.Reach[0] = []api.Reach{} }, func() { l.Reach[1] = nil },
		}
		for i, x := range fullTLVs() {
			if which>>i&1 != 0 {
				want = append(want, x)
			} else {
				leave[i]()
			}
		}
		p, e := lsp.Make(l)
		if !sameTLVs(p.TLVs, want) || e != api.OK {
			t.Fatalf("%v: %v, %d; want %v", l, p.TLVs, e, want)
		}
		if again, e := lsp.Read(p); !sameLSP(again, l) || e != api.OK {
			t.Fatalf("%v: read as %v, %d", l, again, e)
		}
	}
}

func TestBits(t *testing.T) {
	for _, c := range []struct {
		level    int
		overload bool
		attached [2]bool
		want     byte
	}{
		{1, false, [2]bool{}, 1}, {2, false, [2]bool{}, 3},
		{1, true, [2]bool{}, 5}, {2, true, [2]bool{}, 7},
		{1, false, [2]bool{true, false}, 9}, {2, false, [2]bool{true, false}, 11},
		{1, false, [2]bool{false, true}, 1}, {2, false, [2]bool{false, true}, 3},
		{1, true, [2]bool{true, true}, 13}, {2, true, [2]bool{true, true}, 15},
	} {
		l := api.LSP{Level: c.level, Overload: c.overload, Attached: c.attached}
		p, e := lsp.Make(l)
		if p.Bits != c.want || e != api.OK {
			t.Errorf("%v: %d, %d; want %d", c, p.Bits, e, c.want)
		}
		if again, e := lsp.Read(p); !sameLSP(again, l) || e != api.OK {
			t.Errorf("%v: read as %v, %d", c, again, e)
		}
	}
}

// Of the bits only 4 and 8 are looked at, and the level is the kind's.
func TestReadBits(t *testing.T) {
	for bits := range 256 {
		for kind, level := range map[byte]int{18: 1, 20: 2} {
			want := api.LSP{Level: level, Overload: bits&4 != 0, Attached: [2]bool{bits&8 != 0, false}}
			if l, e := lsp.Read(pdu.PDU{Kind: kind, Bits: byte(bits)}); !sameLSP(l, want) || e != api.OK {
				t.Fatalf("bits %d: %v, %d", bits, l, e)
			}
		}
	}
}

func TestReadKinds(t *testing.T) {
	for kind := range 256 {
		l, e := lsp.Read(pdu.PDU{Kind: byte(kind), ID: id, Seq: 5, Life: 6, Bits: 12, TLVs: fullTLVs()})
		if isLSP := kind == 18 || kind == 20; isLSP && e != api.OK || !isLSP && (e != api.ErrForm || !sameLSP(l, api.LSP{})) {
			t.Errorf("kind %d: %v, %d", kind, l, e)
		}
	}
}

// The fields that LSPs don't have aren't looked at.
func TestReadOtherFields(t *testing.T) {
	p, _ := lsp.Make(full(1))
	p.Circuit, p.Source, p.Hold, p.Number, p.Priority, p.LAN, p.Start, p.End = 9, id.Node, -1, 3, 255, id.Node, id, id
	if l, e := lsp.Read(p); !sameLSP(l, full(1)) || e != api.OK {
		t.Error(l, e)
	}
}

func TestReadInAnyOrder(t *testing.T) {
	r := rand.New(rand.NewSource(71))
	for range 200 {
		p, _ := lsp.Make(full(2))
		p.TLVs = append(p.TLVs, tlv(99, "010203"), tlv(0, ""), tlv(10, "01"), tlv(240, "05"))
		r.Shuffle(len(p.TLVs), func(i, j int) { p.TLVs[i], p.TLVs[j] = p.TLVs[j], p.TLVs[i] })
		if l, e := lsp.Read(p); !sameLSP(l, full(2)) || e != api.OK {
			t.Fatal(p.TLVs, l, e)
		}
	}
}

// Of a type that stands there more than once all is told, in order; of the host the first one.
func TestReadMoreThanOnce(t *testing.T) {
	l, e := lsp.Read(pdu.PDU{Kind: 18, TLVs: []api.TLV{
		tlv(137, "6161"), tlv(1, "024901"), tlv(22, "000000000001 00 000001 00"), tlv(222, "0002 000000000004 00 000004 00"),
		tlv(135, "00000001 080a"), tlv(237, "0002 00000001 00 10 2001"), tlv(137, "6262"),
		tlv(1, ""), tlv(22, ""), tlv(222, "0002"), tlv(135, ""), tlv(237, "0002"), tlv(229, ""),
		tlv(1, "0147 03010203"), tlv(22, "000000000002 03 000002 00 000000000001 00 000001 00"), tlv(222, "0002 000000000005 00 000005 00"),
		tlv(135, "00000002 080b"), tlv(237, "0002 00000002 80 10 2002"),
	}})
	want := api.LSP{
		Level: 1, Host: "aa", Areas: [][]byte{{0x49, 1}, {0x47}, {1, 2, 3}},
		Edges: [2][]api.Edge{{to(1, 0, 1), to(2, 3, 2), to(1, 0, 1)}, {to(4, 0, 4), to(5, 0, 5)}},
		Reach: [2][]api.Reach{{told("10.0.0.0/8", 1, false), told("11.0.0.0/8", 2, false)}, {told("2001::/16", 1, false), told("2002::/16", 2, true)}},
	}
	if !sameLSP(l, want) || e != api.OK {
		t.Errorf("%v, %d; want %v", l, e, want)
	}
	l, e = lsp.Read(pdu.PDU{Kind: 18, TLVs: []api.TLV{tlv(137, ""), tlv(137, "61")}})
	if l.Host != "" || e != api.OK {
		t.Error("an empty first host counts, too:", l, e)
	}
}

// Reading sets no bound on how much is told, nor on how long the host is.
func TestReadMany(t *testing.T) {
	p := pdu.PDU{Kind: 20}
	want := api.LSP{Level: 2, Host: strings.Repeat("h", 255)}
	p.TLVs = append(p.TLVs, api.TLV{Type: 137, Value: []byte(want.Host)})
	for i := range byte(20) {
		p.TLVs = append(p.TLVs, api.TLV{Type: 1, Value: append([]byte{13}, bytes.Repeat([]byte{i}, 13)...)})
		want.Areas = append(want.Areas, bytes.Repeat([]byte{i}, 13))
		edge := []api.Edge{to(i, 0, uint32(i))}
		value, _ := reach.PutEdges(edge)
		p.TLVs = append(p.TLVs, api.TLV{Type: 22, Value: value})
		want.Edges[0] = append(want.Edges[0], edge...)
	}
	if l, e := lsp.Read(p); !sameLSP(l, want) || e != api.OK {
		t.Error(l, e)
	}
}

func TestReadTopologies(t *testing.T) {
	for text, want := range map[string]bool{
		"":               false,
		"4002":           true,
		"c002":           true,
		"7002":           true,
		"f002":           true,
		"0002":           false,
		"8002":           false,
		"b002":           false, // 4000 is not among these
		"4001":           false,
		"4000":           false,
		"4003":           false,
		"4102":           false, // modulo 4096 that is 102
		"4802":           false,
		"0240":           false,
		"4000 0002":      false,
		"4000 4002":      true,
		"4002 4000":      true,
		"4002 0002":      true,
		"0002 4002":      true,
		"00 4002 00":     false, // pairs of bytes: 0040, 0200
		"0000 8000 1fff": false,
	} {
		l, e := lsp.Read(pdu.PDU{Kind: 18, TLVs: []api.TLV{tlv(229, text)}})
		if !sameLSP(l, api.LSP{Level: 1, Attached: [2]bool{false, want}}) || e != api.OK {
			t.Errorf("229 with %s: %v, %d; want %t", text, l, e, want)
		}
	}
	l, e := lsp.Read(pdu.PDU{Kind: 18, TLVs: []api.TLV{tlv(229, "4002"), tlv(229, "0002")}})
	if !l.Attached[1] || l.Attached[0] || e != api.OK {
		t.Error("of two 229 the first one says attached:", l, e)
	}
}

// 222 and 237 of another topology aren't looked at, whatever stands in them.
func TestReadOtherTopologies(t *testing.T) {
	edge, route := "000000000001 00 000001 00", "00000001 00 10 2001"
	for first, isSecond := range map[string]bool{
		"0002": true, "4002": true, "f002": true, "1002": true,
		"0000": false, "0001": false, "0003": false, "0102": false, "0802": false, "0200": false, "0012": false, "f003": false,
	} {
		want := api.LSP{Level: 1}
		if isSecond {
			want.Edges[1] = []api.Edge{to(1, 0, 1)}
			want.Reach[1] = []api.Reach{told("2001::/16", 1, false)}
		}
		l, e := lsp.Read(pdu.PDU{Kind: 18, TLVs: []api.TLV{tlv(222, first+edge), tlv(237, first+route)}})
		if !sameLSP(l, want) || e != api.OK {
			t.Errorf("topology %s: %v, %d; want %v", first, l, e, want)
		}
		for _, kind := range []byte{222, 237} {
			l, e := lsp.Read(pdu.PDU{Kind: 18, TLVs: []api.TLV{tlv(kind, first+"01")}})
			if isSecond && e != api.ErrForm || !isSecond && (e != api.OK || !sameLSP(l, api.LSP{Level: 1})) {
				t.Errorf("topology %s, a %d that is cut off: %v, %d", first, kind, l, e)
			}
		}
	}
}

func TestReadWrongValues(t *testing.T) {
	for _, x := range []api.TLV{
		tlv(1, "00"), tlv(1, "01"), tlv(1, "024901 00"), tlv(1, "00 024901"), tlv(1, "024901 02 49"), tlv(1, "0e 0102030405060708090a0b0c0d0e"), tlv(1, "ff"),
		tlv(229, "40"), tlv(229, "400240"), tlv(229, "000000"),
		tlv(22, "00"), tlv(22, "000000000001 00 000001"), tlv(22, "000000000001 00 000001 01"), tlv(22, "000000000001 00 000001 00 00"),
		tlv(222, ""), tlv(222, "00"), tlv(222, "0002 00"), tlv(222, "0002 000000000001 00 000001"),
		tlv(135, "00"), tlv(135, "00000001 21 0000000000"), tlv(135, "00000001 08"), tlv(135, "00000001 40 01"),
		tlv(237, ""), tlv(237, "00"), tlv(237, "0002 00"), tlv(237, "0002 00000001 00 81"+strings.Repeat("00", 17)), tlv(237, "0002 00000001 00 08"),
	} {
		for at := range 8 {
			p, _ := lsp.Make(full(1))
			p.TLVs = slices.Insert(p.TLVs, at, x)
			if l, e := lsp.Read(p); e != api.ErrForm || !sameLSP(l, api.LSP{}) {
				t.Errorf("%d with %x: %v, %d", x.Type, x.Value, l, e)
			}
		}
	}
	if l, e := lsp.Read(pdu.PDU{Kind: 18, TLVs: []api.TLV{tlv(1, "0d 0102030405060708090a0b0c0d 01 ff")}}); len(l.Areas) != 2 || len(l.Areas[0]) != 13 || e != api.OK {
		t.Error(l, e)
	}
	for _, kind := range []byte{22, 135, 222, 237} { // more bytes than a TLV's value may have
		long := append([]byte{0, 2}, bytes.Repeat([]byte{0}, 11*30)...)
		if l, e := lsp.Read(pdu.PDU{Kind: 18, TLVs: []api.TLV{{Type: kind, Value: long}}}); e != api.ErrForm || !sameLSP(l, api.LSP{}) {
			t.Errorf("%d with too many bytes: %v, %d", kind, l, e)
		}
	}
}

// many answers a list of count things.
func many[T any](count int, one T) []T {
	return slices.Repeat([]T{one}, count)
}

// faults are LSPs' faults, by their errors; those of a list may stand together.
var faults = map[api.Errno][]func(*api.LSP){
	api.ErrArg: {
		func(l *api.LSP) { l.Level = 0 }, func(l *api.LSP) { l.Level = 3 }, func(l *api.LSP) { l.Level = -1 }, func(l *api.LSP) { l.Level = math.MaxInt },
		func(l *api.LSP) { l.Level = math.MinInt }, func(l *api.LSP) { l.Life = -1 }, func(l *api.LSP) { l.Life = 65536 }, func(l *api.LSP) { l.Life = math.MinInt },
	},
	api.ErrLong: {
		func(l *api.LSP) { l.Areas = many(4, []byte{1}) }, func(l *api.LSP) { l.Host = strings.Repeat("h", 64) },
		func(l *api.LSP) { l.Edges[0] = many(9, to(1, 0, 1)) }, func(l *api.LSP) { l.Edges[1] = many(24, to(1, 0, 1)) },
		func(l *api.LSP) { l.Reach[0] = many(9, told("10.0.0.0/8", 1, false)) }, func(l *api.LSP) { l.Reach[1] = many(12, told("2001::/16", 1, false)) },
		func(l *api.LSP) { l.Host = strings.Repeat("h", 1000) }, func(l *api.LSP) { l.Reach[1] = many(9, api.Reach{}) },
	},
	api.ErrForm: {
		func(l *api.LSP) { l.Areas = [][]byte{{}} }, func(l *api.LSP) { l.Areas = [][]byte{{1}, nil} }, func(l *api.LSP) { l.Areas = [][]byte{{1}, {2}, make([]byte, 14)} },
		func(l *api.LSP) { l.Areas = [][]byte{make([]byte, 256), {1}} },
		func(l *api.LSP) { l.Reach[0] = []api.Reach{told("10.0.0.0/8", 1, false), told("2001::/16", 1, false)} },
		func(l *api.LSP) { l.Reach[1] = []api.Reach{told("10.0.0.0/8", 1, false)} },
		func(l *api.LSP) { l.Reach[0] = []api.Reach{{}} }, func(l *api.LSP) { l.Reach[1] = []api.Reach{{}} },
		func(l *api.LSP) { l.Reach[0] = []api.Reach{{Prefix: api.Prefix{Fam: 4, Len: 33}}} },
		func(l *api.LSP) {
			l.Reach[0] = []api.Reach{{Prefix: api.Prefix{Fam: 4, Len: 8, Addr: [16]byte{10, 1}}}}
		},
		func(l *api.LSP) { l.Reach[1] = []api.Reach{{Prefix: api.Prefix{Fam: 6, Len: -1}}} },
		func(l *api.LSP) {
			l.Reach[1] = []api.Reach{{Prefix: api.Prefix{Fam: 6, Len: 127, Addr: [16]byte{15: 1}}}}
		},
	},
	api.ErrRange: {
		func(l *api.LSP) { l.Edges[0] = []api.Edge{to(1, 0, 1), to(1, 0, api.MaxLink+1)} }, func(l *api.LSP) { l.Edges[1] = []api.Edge{to(1, 0, 1<<32-1)} },
	},
}

func TestMakeErrors(t *testing.T) {
	for e, list := range faults {
		for i, fault := range list {
			for _, level := range []int{1, 2} {
				l := full(level)
				fault(&l)
				if p, got := lsp.Make(l); got != e || !samePDU(p, pdu.PDU{}) {
					t.Errorf("error %d, fault %d: %v, %d", e, i, p, got)
				}
			}
		}
	}
}

// Of two errors the one with the least number is answered.
func TestMakeOrderOfErrors(t *testing.T) {
	for e, list := range faults {
		for f, others := range faults {
			if e >= f {
				continue
			}
			for i, fault := range list {
				for j, other := range others {
					l := full(1)
					other(&l)
					fault(&l) // the last word: it may write over the other one, but the answer stays
					if p, got := lsp.Make(l); got != e || !samePDU(p, pdu.PDU{}) {
						t.Errorf("errors %d, %d, faults %d, %d: %v, %d", e, f, i, j, p, got)
					}
				}
			}
		}
	}
}

// At the limits all goes well, and the packet may be written.
func TestMakeAtTheLimits(t *testing.T) {
	for _, life := range []int{0, 65535} {
		l := api.LSP{
			Level: 2, ID: id, Seq: 1<<32 - 1, Life: life, Areas: many(3, make([]byte, 13)), Host: strings.Repeat("h", 63), Attached: [2]bool{false, true},
			Edges: [2][]api.Edge{many(8, to(1, 255, api.MaxLink)), many(8, to(2, 0, 0))},
			Reach: [2][]api.Reach{many(8, told("1.2.3.4/32", 1<<32-1, true)), many(8, told("1:2:3:4:5:6:7:8/128", 0, true))},
		}
		p, e := lsp.Make(l)
		if e != api.OK {
			t.Fatal(e)
		}
		b, e := pdu.Write(p)
		if e != api.OK {
			t.Fatal(e)
		}
		q, e := pdu.Read(b)
		if e != api.OK {
			t.Fatal(e)
		}
		if again, e := lsp.Read(q); !sameLSP(again, l) || e != api.OK {
			t.Error(again, e)
		}
	}
}

// someLSP answers an LSP that can be made.
func someLSP(r *rand.Rand) api.LSP {
	l := api.LSP{Level: 1 + r.Intn(2), Seq: r.Uint32(), Life: r.Intn(65536), Overload: r.Intn(2) == 0, Attached: [2]bool{r.Intn(2) == 0, r.Intn(2) == 0}}
	r.Read(l.ID.Node.Sys[:])
	l.ID.Node.Pseudo, l.ID.Frag = byte(r.Intn(256)), byte(r.Intn(256))
	for range r.Intn(4) {
		area := make([]byte, 1+r.Intn(13))
		r.Read(area)
		l.Areas = append(l.Areas, area)
	}
	host := make([]byte, r.Intn(64))
	r.Read(host)
	l.Host = string(host)
	for t, fam := range []byte{4, 6} {
		for range r.Intn(9) {
			l.Edges[t] = append(l.Edges[t], to(byte(r.Intn(256)), byte(r.Intn(256)), uint32(r.Intn(api.MaxLink+1))))
		}
		for range r.Intn(9) {
			p := api.Prefix{Fam: fam, Len: r.Intn([]int{33, 129}[t])}
			r.Read(p.Addr[:])
			p, _ = prefix.Cut(p, p.Len)
			l.Reach[t] = append(l.Reach[t], api.Reach{Prefix: p, Metric: r.Uint32(), Down: r.Intn(2) == 0})
		}
	}
	return l
}

func TestWhatWasMadeIsReadAgain(t *testing.T) {
	r := rand.New(rand.NewSource(72))
	for range 2000 {
		l := someLSP(r)
		p, e := lsp.Make(l)
		if e != api.OK {
			t.Fatal(l, e)
		}
		if again, e := lsp.Read(p); !sameLSP(again, l) || e != api.OK {
			t.Fatal(l, again, e)
		}
	}
}

// What holds everywhere: P1, P2.

func TestNothingPanics(t *testing.T) {
	r := rand.New(rand.NewSource(73))
	kinds := []byte{1, 22, 222, 135, 237, 137, 229, 99}
	read := 0
	for range 30000 {
		p := pdu.PDU{Kind: byte(17 + r.Intn(4)), Life: r.Int() - r.Int()}
		for range r.Intn(3) {
			value := make([]byte, r.Intn(30))
			for i := range value {
				value[i] = []byte{0, 0, 1, 2, 8, byte(r.Intn(256))}[r.Intn(6)]
			}
			p.TLVs = append(p.TLVs, api.TLV{Type: kinds[r.Intn(len(kinds))], Value: value})
		}
		l, e := lsp.Read(p)
		again, f := lsp.Read(p)
		if !sameLSP(l, again) || e != f || e != api.OK && e != api.ErrForm {
			t.Fatal(p, l, e, again, f)
		}
		if e == api.OK {
			read++
		}
		lsp.Make(l)
	}
	if read < 1000 {
		t.Error("too little was read:", read)
	}
}

// What is handed in is neither changed nor kept, and no answer shares memory with another one.
func TestMemory(t *testing.T) {
	l := full(1)
	p, _ := lsp.Make(l)
	other, _ := lsp.Make(l)
	if !sameLSP(l, full(1)) {
		t.Fatal("what was handed in has changed")
	}
	fill(l.Areas[0])
	l.Edges[0][0], l.Reach[0][0] = api.Edge{}, api.Reach{}
	for i := range other.TLVs {
		fill(other.TLVs[i].Value)
	}
	fill(other.TLVs[0].Value)
	if !sameTLVs(p.TLVs, fullTLVs()) {
		t.Fatal("a packet hangs on what was handed in, or on another answer")
	}
	for i := range p.TLVs { // each value by itself
		fill(p.TLVs[i].Value)
		if !sameTLVs(p.TLVs[i+1:], fullTLVs()[i+1:]) {
			t.Fatal("two values share memory")
		}
	}

	in := pdu.PDU{Kind: 18, ID: id, Seq: 0x01020304, Life: 1200, Bits: 12}
	spare := bytes.Repeat([]byte{0xee}, 300)
	for _, x := range fullTLVs() {
		spare = append(spare[:0], x.Value...)
		in.TLVs = append(in.TLVs, api.TLV{Type: x.Type, Value: slices.Clone(spare[:300])[:len(x.Value)]})
	}
	before := slices.Clone(in.TLVs[0].Value[:300])
	a, _ := lsp.Read(in)
	b, _ := lsp.Read(in)
	if !sameTLVs(in.TLVs, fullTLVs()) || !bytes.Equal(in.TLVs[0].Value[:300], before) {
		t.Fatal("what was handed in has changed")
	}
	for i := range in.TLVs {
		fill(in.TLVs[i].Value)
	}
	fill(b.Areas[0])
	b.Edges[0][0], b.Reach[1][0] = api.Edge{}, api.Reach{}
	if !sameLSP(a, full(1)) {
		t.Fatal("an LSP hangs on the packet, or on another answer")
	}
	fill(a.Areas[0])
	if !bytes.Equal(a.Areas[1], []byte{0x47}) {
		t.Fatal("two areas share memory")
	}
}

// fill writes over p and its spare room.
func fill(p []byte) {
	p = p[:cap(p)]
	for i := range p {
		p[i] = 0x99
	}
}
