package mac_test

import (
	"bytes"
	"crypto/hmac"
	"crypto/sha256"
	"encoding/hex"
	"math/rand"
	"reflect"
	"slices"
	"strings"
	"testing"

	"waymark/api"
	"waymark/mac"
	"waymark/octet"
	"waymark/pdu"
)

// raw answers the bytes that stand in the text to the base 16.
func raw(text string) []byte {
	p, err := hex.DecodeString(strings.ReplaceAll(text, " ", ""))
	if err != nil {
		panic(err)
	}
	return p
}

// P8.1

func TestSha(t *testing.T) {
	for text, want := range map[string]string{
		"":    "e3b0c442 98fc1c14 9afbf4c8 996fb924 27ae41e4 649b934c a495991b 7852b855",
		"abc": "ba7816bf 8f01cfea 414140de 5dae2223 b00361a3 96177a9c b410ff61 f20015ad",
		"abcdbcdecdefdefgefghfghighijhijkijkljklmklmnlmnomnopnopq": "248d6a61 d20638b8 e5c02693 0c3e6039 a33ce459 64ff2167 f6ecedd4 19db06c1",
	} {
		if got := mac.Sha([]byte(text)); !bytes.Equal(got[:], raw(want)) {
			t.Errorf("Sha(%q) = %x; want %s", text, got, want)
		}
	}
}

func TestShaOfEachLength(t *testing.T) {
	r := rand.New(rand.NewSource(81))
	p := make([]byte, 1000)
	r.Read(p)
	for n := range len(p) {
		if got := mac.Sha(p[:n]); got != sha256.Sum256(p[:n]) {
			t.Fatalf("Sha of %d bytes = %x", n, got)
		}
	}
	for _, n := range []int{1 << 16, 1<<21 - 1, 1<<21 + 63} {
		long := bytes.Repeat([]byte{0xff, 0, 0x80}, n/3+1)[:n]
		if got := mac.Sha(long); got != sha256.Sum256(long) {
			t.Fatalf("Sha of %d bytes = %x", n, got)
		}
	}
	if mac.Sha(nil) != mac.Sha([]byte{}) {
		t.Error("nil and no bytes aren't the same")
	}
}

func TestHmac(t *testing.T) {
	for _, c := range []struct{ key, p, want string }{
		{strings.Repeat("0b", 20), "48 69 20 54 68 65 72 65", "b0344c61 d8db3853 5ca8afce af0bf12b 881dc200 c9833da7 26e9376c 2e32cff7"},
		{"4a656665", hex.EncodeToString([]byte("what do ya want for nothing?")), "5bdcc146 bf60754e 6a042426 089575c7 5a003f08 9d273983 9dec58b9 64ec3843"},
	} {
		if got, e := mac.Hmac(raw(c.key), raw(c.p)); !bytes.Equal(got[:], raw(c.want)) || e != api.OK {
			t.Errorf("Hmac(%s, %s) = %x, %d; want %s", c.key, c.p, got, e, c.want)
		}
	}
}

// hmacOf answers what the library does.
func hmacOf(key, p []byte) [32]byte {
	h := hmac.New(sha256.New, key)
	h.Write(p)
	return [32]byte(h.Sum(nil))
}

func TestHmacOfEachLength(t *testing.T) {
	r := rand.New(rand.NewSource(82))
	for n := range 130 {
		key, p := make([]byte, n), make([]byte, r.Intn(300))
		r.Read(key)
		r.Read(p)
		want, f := hmacOf(key, p), api.OK
		if n > 64 {
			want, f = [32]byte{}, api.ErrLong
		}
		if got, e := mac.Hmac(key, p); got != want || e != f {
			t.Errorf("Hmac by %d bytes = %x, %d; want %x, %d", n, got, e, want, f)
		}
	}
	if got, e := mac.Hmac(nil, nil); got != hmacOf(nil, nil) || e != api.OK {
		t.Errorf("Hmac of nothing = %x, %d", got, e)
	}
}

// P8.2

var kinds = []byte{15, 16, 17, 18, 20, 24, 25, 26, 27}

var (
	node = api.Node{Sys: api.SysID{1, 2, 3, 4, 5, 6}}
	low  = api.LSPID{Node: api.Node{Sys: api.SysID{0x11, 0x12, 0x13, 0x14, 0x15, 0x16}, Pseudo: 0x17}, Frag: 0x18}
)

// packet answers a packet of that kind, with something in each of its fields.
func packet(kind byte, list ...api.TLV) pdu.PDU {
	p := pdu.PDU{Kind: kind, TLVs: list}
	switch kind {
	case 15, 16:
		p.Circuit, p.Source, p.Hold, p.Priority, p.LAN = 1, node, 30, 64, low.Node
	case 17:
		p.Circuit, p.Source, p.Hold, p.Number = 3, node, 10, 1
	case 18, 20:
		p.Life, p.ID, p.Seq, p.Bits = 1200, low, 7, 3
	case 24, 25:
		p.Source, p.Start, p.End = node, low, low
	default:
		p.Source = node
	}
	return p
}

var (
	area = api.TLV{Type: 1, Value: []byte{2, 0x49, 1}}
	none = api.TLV{Type: 9}
	key  = api.Key{ID: 0x0102, Secret: []byte("secret")}
)

// same tells whether two packets are the same, nil and empty lists too.
func same(a, b pdu.PDU) bool {
	if !slices.EqualFunc(a.TLVs, b.TLVs, func(x, y api.TLV) bool { return x.Type == y.Type && bytes.Equal(x.Value, y.Value) }) {
		return false
	}
	a.TLVs, b.TLVs = nil, nil
	return reflect.DeepEqual(a, b)
}

func isLSP(kind byte) bool {
	return kind == 18 || kind == 20
}

// sign answers b with its last 32 bytes as those that sign it, and with an LSP's check bytes, step by step as the chapter says it.
func sign(b, secret []byte) []byte {
	b = bytes.Clone(b)
	blank := bytes.Clone(b)
	copy(blank[len(blank)-32:], make([]byte, 32))
	if isLSP(b[4]) {
		blank[10], blank[11], blank[24], blank[25] = 0, 0, 0, 0
	}
	sum := hmacOf(secret, blank)
	copy(b[len(b)-32:], sum[:])
	return checked(b)
}

// checked answers b with the check bytes that an LSP of these bytes has.
func checked(b []byte) []byte {
	if isLSP(b[4]) {
		sum, e := octet.Sum(b[12:], 12)
		if e != api.OK {
			panic(e)
		}
		b[24], b[25] = byte(sum>>8), byte(sum)
	}
	return b
}

// signed answers the bytes of p, with a TLV of the type 10 that has this value, signed by its last 32 bytes.
func signed(p pdu.PDU, value, secret []byte) []byte {
	p.TLVs = append(slices.Clone(p.TLVs), api.TLV{Type: 10, Value: value})
	b, e := pdu.Write(p)
	if e != api.OK {
		panic(e)
	}
	return sign(b, secret)
}

// place answers a TLV's value that begins with these bytes, and has 32 of 00 behind them.
func place(first ...byte) []byte {
	return append(first, make([]byte, 32)...)
}

func TestSealAndOpen(t *testing.T) {
	for _, kind := range kinds {
		for _, list := range [][]api.TLV{nil, {area}, {area, none, area}} {
			for _, secret := range [][]byte{{0}, []byte("secret"), bytes.Repeat([]byte{0xff}, 64)} {
				for _, id := range []uint16{0, 1, 0x0102, 0xffff} {
					k := api.Key{ID: id, Secret: secret}
					p := packet(kind, list...)
					want := signed(p, place(3, byte(id>>8), byte(id)), secret)
					b, e := mac.Seal(p, k)
					if !bytes.Equal(b, want) || e != api.OK {
						t.Fatalf("Seal(%v, %v) = %x, %d; want %x", p, k, b, e, want)
					}
					if got, e := mac.Open(b, []api.Key{k}); !same(got, p) || e != api.OK {
						t.Fatalf("Open(%x, %v) = %v, %d; want %v", b, k, got, e, p)
					}
				}
			}
		}
	}
}

// Without keys Open is pdu.Read, whether the packet is signed or not.
func TestOpenWithoutKeys(t *testing.T) {
	for _, kind := range kinds {
		b, _ := mac.Seal(packet(kind, area), key)
		plain, _ := pdu.Write(packet(kind, area))
		for _, b := range [][]byte{b, plain, b[:len(b)-1], plain[:3], nil, make([]byte, 2000), slices.Concat(b[:26], []byte{0xff}, b[27:])} {
			want, f := pdu.Read(b)
			for _, keys := range [][]api.Key{nil, {}} {
				if p, e := mac.Open(b, keys); !same(p, want) || e != f {
					t.Errorf("Open(%x) = %v, %d; want %v, %d", b, p, e, want, f)
				}
			}
		}
		p, e := mac.Open(b, nil)
		if len(p.TLVs) != 2 || p.TLVs[1].Type != 10 || len(p.TLVs[1].Value) != 35 || e != api.OK {
			t.Errorf("kind %d: %v, %d", kind, p, e)
		}
	}
}

// An LSP's life, and nothing else, may become another one.
func TestOpenOfOtherBytes(t *testing.T) {
	for _, kind := range kinds {
		b, _ := mac.Seal(packet(kind, area), key)
		for at := range b {
			for bit := range 8 {
				turned := bytes.Clone(b)
				turned[at] ^= 1 << bit
				want := packet(kind, area)
				if ofLife := at == 10 || at == 11; isLSP(kind) && ofLife {
					want.Life = int(turned[10])*256 + int(turned[11])
					if p, e := mac.Open(turned, []api.Key{key}); !same(p, want) || e != api.OK {
						t.Fatalf("kind %d, another life: %v, %d", kind, p, e)
					}
					continue
				}
				// Check bytes that are right don't help, either.
				for _, other := range [][]byte{turned, checked(bytes.Clone(turned))} {
					if bytes.Equal(other, b) { // these were turned, and are put right
						continue
					}
					if p, e := mac.Open(other, []api.Key{key}); e == api.OK || !same(p, pdu.PDU{}) {
						t.Fatalf("kind %d, place %d, bit %d: %v, %d", kind, at, bit, p, e)
					}
				}
			}
		}
	}
}

// The first of the keys with the packet's ID counts.
func TestOpenByManyKeys(t *testing.T) {
	other := api.Key{ID: 9, Secret: []byte("other")}
	same1 := api.Key{ID: key.ID, Secret: []byte("another")}
	for _, kind := range kinds {
		b, _ := mac.Seal(packet(kind), key)
		for _, c := range []struct {
			keys []api.Key
			e    api.Errno
		}{
			{[]api.Key{key}, api.OK},
			{[]api.Key{other, key}, api.OK},
			{[]api.Key{key, other}, api.OK},
			{[]api.Key{key, same1}, api.OK},
			{[]api.Key{same1, key}, api.ErrKey},
			{[]api.Key{same1}, api.ErrKey},
			{[]api.Key{other}, api.ErrKey},
			{[]api.Key{{ID: 0x0201, Secret: key.Secret}}, api.ErrKey},
			{[]api.Key{{ID: 0x0002, Secret: key.Secret}}, api.ErrKey},
			{[]api.Key{{ID: 0x0100, Secret: key.Secret}}, api.ErrKey},
			{append(slices.Repeat([]api.Key{other}, 7), key), api.OK},
			{append(slices.Repeat([]api.Key{other}, 8), key), api.ErrLong},
			{slices.Repeat([]api.Key{key}, 9), api.ErrLong},
		} {
			want := pdu.PDU{}
			if c.e == api.OK {
				want = packet(kind)
			}
			if p, e := mac.Open(b, c.keys); !same(p, want) || e != c.e {
				t.Errorf("kind %d, keys %v: %v, %d; want %d", kind, c.keys, p, e, c.e)
			}
		}
	}
}

func TestOpenOfWrongSignatures(t *testing.T) {
	good := place(3, 1, 2)
	seen := api.TLV{Type: 10, Value: good}
	for _, kind := range kinds {
		plain, _ := pdu.Write(packet(kind, area))
		noTLVs, _ := pdu.Write(packet(kind))
		behind := packet(kind, seen, api.TLV{Type: 9, Value: make([]byte, 32)}) // signed, but not by the last one
		last, _ := pdu.Write(behind)
		for what, b := range map[string][]byte{
			"unsigned":          plain,
			"without TLVs":      noTLVs,
			"two":               signed(packet(kind, seen), good, key.Secret),
			"two, one is none":  signed(packet(kind, api.TLV{Type: 10}, area), good, key.Secret),
			"not the last":      sign(last, key.Secret),
			"of another type":   sign(withLastType(signed(packet(kind), good, key.Secret), 11), key.Secret),
			"begins with 54":    signed(packet(kind), place(54, 1, 2), key.Secret),
			"begins with 1":     signed(packet(kind), place(1, 1, 2), key.Secret),
			"one byte more":     signed(packet(kind), place(3, 1, 2, 0), key.Secret),
			"one byte less":     signed(packet(kind), place(3, 1), key.Secret),
			"its 32 bytes":      signed(packet(kind), place(), key.Secret),
			"by another secret": signed(packet(kind), good, []byte("Secret")),
			"by no secret":      signed(packet(kind), good, nil),
		} {
			if p, e := mac.Open(b, []api.Key{key}); e != api.ErrKey || !same(p, pdu.PDU{}) {
				t.Errorf("kind %d, %s: %v, %d", kind, what, p, e)
			}
		}
		empty := packet(kind, api.TLV{Type: 10})
		b, _ := pdu.Write(empty)
		if p, e := mac.Open(b, []api.Key{key}); e != api.ErrKey || !same(p, pdu.PDU{}) {
			t.Errorf("kind %d, a signature of no bytes: %v, %d", kind, p, e)
		}
	}
}

// withLastType answers b with that type of its last TLV, whose value has 35 bytes.
func withLastType(b []byte, kind byte) []byte {
	b[len(b)-37] = kind
	return b
}

// errorsOfKeys are wrong secrets, and the errors that they make.
var errorsOfKeys = []struct {
	secret []byte
	e      api.Errno
}{
	{nil, api.ErrForm}, {[]byte{}, api.ErrForm}, {make([]byte, 65), api.ErrLong}, {make([]byte, 1000), api.ErrLong}, {make([]byte, 1), api.OK}, {make([]byte, 64), api.OK},
}

func TestSecrets(t *testing.T) {
	for _, c := range errorsOfKeys {
		k := api.Key{ID: 5, Secret: c.secret}
		b, e := mac.Seal(packet(17), k)
		if e != c.e || e != api.OK && len(b) > 0 {
			t.Errorf("Seal by %d bytes: %x, %d; want %d", len(c.secret), b, e, c.e)
		}
		good, _ := mac.Seal(packet(17), key)
		for _, keys := range [][]api.Key{{k, key}, {key, k}} { // all are looked at, and not just the one that is asked for
			want := pdu.PDU{}
			if c.e == api.OK {
				want = packet(17)
			}
			if p, e := mac.Open(good, keys); e != c.e || !same(p, want) {
				t.Errorf("Open by %d bytes: %v, %d; want %d", len(c.secret), p, e, c.e)
			}
		}
	}
	empty, long := api.Key{}, api.Key{Secret: make([]byte, 65)}
	for _, keys := range [][]api.Key{{empty, long}, {long, empty}, append(slices.Repeat([]api.Key{key}, 8), empty)} {
		if p, e := mac.Open(nil, keys); e != api.ErrLong || !same(p, pdu.PDU{}) {
			t.Errorf("%v, %d", p, e)
		}
	}
}

func TestSealErrors(t *testing.T) {
	wrong := packet(17)
	wrong.Circuit = 4
	long := packet(26, api.TLV{Value: make([]byte, 256)})
	had := packet(18, area, api.TLV{Type: 10, Value: []byte{1}}, area)
	hadLong := packet(18, api.TLV{Type: 10, Value: make([]byte, 256)})
	hadWrong := packet(18, api.TLV{Type: 10})
	hadWrong.Life = -1
	short, tooLong := api.Key{}, api.Key{Secret: make([]byte, 65)}
	for i, c := range []struct {
		p pdu.PDU
		k api.Key
		e api.Errno
	}{
		{pdu.PDU{}, key, api.ErrArg}, {packet(19), key, api.ErrArg}, {wrong, key, api.ErrArg}, {wrong, short, api.ErrArg}, {wrong, tooLong, api.ErrArg}, {hadWrong, key, api.ErrArg}, {hadWrong, tooLong, api.ErrArg},
		{long, key, api.ErrLong}, {long, short, api.ErrLong}, {packet(16), tooLong, api.ErrLong}, {had, tooLong, api.ErrLong}, {hadLong, key, api.ErrLong}, {hadLong, short, api.ErrLong},
		{had, key, api.ErrForm}, {had, short, api.ErrForm}, {packet(18, api.TLV{Type: 10}), key, api.ErrForm}, {packet(20), short, api.ErrForm},
	} {
		if b, e := mac.Seal(c.p, c.k); e != c.e || len(b) > 0 {
			t.Errorf("case %d: %x, %d; want %d", i, b, e, c.e)
		}
	}
}

// The signature must have its room, too.
func TestSealNearTheLimit(t *testing.T) {
	for _, kind := range kinds {
		bare, _ := pdu.Write(packet(kind))
		for _, whole := range []int{api.MaxPDU - 1, api.MaxPDU, api.MaxPDU + 1} {
			p := packet(kind)
			for room := whole - 37 - len(bare); room > 0; {
				size := min(room, 200)
				p.TLVs = append(p.TLVs, api.TLV{Type: 8, Value: make([]byte, size-2)})
				room -= size
			}
			b, e := mac.Seal(p, key)
			if whole > api.MaxPDU {
				if e != api.ErrLong || len(b) > 0 {
					t.Errorf("kind %d, %d bytes: %d bytes, %d", kind, whole, len(b), e)
				}
				continue
			}
			if len(b) != whole || e != api.OK {
				t.Fatalf("kind %d, %d bytes: %d bytes, %d", kind, whole, len(b), e)
			}
			if got, e := mac.Open(b, []api.Key{key}); !same(got, p) || e != api.OK {
				t.Errorf("kind %d, %d bytes: not opened, %d", kind, whole, e)
			}
		}
	}
}

// Of several errors Open answers the one with the least number.
func TestOpenErrors(t *testing.T) {
	b, _ := mac.Seal(packet(18, area), key)
	cut := b[:len(b)-1]
	turned := slices.Concat(b[:23], []byte{0xaa}, b[24:])
	unsigned, _ := pdu.Write(packet(18))
	unsignedTurned := slices.Concat(unsigned[:23], []byte{0xaa}, unsigned[24:])
	long := make([]byte, api.MaxPDU+1)
	other, empty, tooLong := api.Key{ID: 1, Secret: []byte("x")}, api.Key{}, api.Key{Secret: make([]byte, 65)}
	for i, c := range []struct {
		b    []byte
		keys []api.Key
		e    api.Errno
	}{
		{long, []api.Key{key}, api.ErrLong}, {long, []api.Key{empty}, api.ErrLong}, {cut, []api.Key{tooLong}, api.ErrLong}, {turned, []api.Key{tooLong}, api.ErrLong}, {b, []api.Key{tooLong, key}, api.ErrLong},
		{nil, []api.Key{key}, api.ErrForm}, {cut, []api.Key{key}, api.ErrForm}, {cut, []api.Key{other}, api.ErrForm}, {turned, []api.Key{empty}, api.ErrForm}, {unsigned, []api.Key{empty}, api.ErrForm}, {b, []api.Key{key, empty}, api.ErrForm},
		{turned, []api.Key{key}, api.ErrSum}, {turned, []api.Key{other}, api.ErrSum}, {unsignedTurned, []api.Key{key}, api.ErrSum}, {turned, nil, api.ErrSum},
		{b, []api.Key{other}, api.ErrKey}, {unsigned, []api.Key{key}, api.ErrKey},
	} {
		if p, e := mac.Open(c.b, c.keys); e != c.e || !same(p, pdu.PDU{}) {
			t.Errorf("case %d: %v, %d; want %d", i, p, e, c.e)
		}
	}
}

// What holds everywhere: P1, P2.

func TestNothingPanics(t *testing.T) {
	r := rand.New(rand.NewSource(83))
	for range 3000 {
		p := packet(kinds[r.Intn(len(kinds))], slices.Repeat([]api.TLV{area}, r.Intn(3))...)
		k := api.Key{ID: uint16(r.Intn(3)), Secret: make([]byte, r.Intn(70))}
		b, e := mac.Seal(p, k)
		again, f := mac.Seal(p, k)
		if !bytes.Equal(b, again) || e != f {
			t.Fatal(p, k, b, e, again, f)
		}
		for i := r.Intn(3); i > 0 && len(b) > 0; i-- {
			b = b[:len(b)-r.Intn(2)]
			b[r.Intn(len(b))] = byte(r.Intn(256))
		}
		keys := slices.Repeat([]api.Key{k}, r.Intn(10))
		x, e := mac.Open(b, keys)
		y, f := mac.Open(b, keys)
		if !same(x, y) || e != f {
			t.Fatal(b, keys, x, e, y, f)
		}
	}
}

// What is handed in is neither changed nor kept, and no answer shares memory with another one.
func TestMemory(t *testing.T) {
	room := []api.TLV{area, {Type: 2, Value: []byte("two")}, {Type: 77}, {Type: 78}}
	secret := append(make([]byte, 0, 100), "secret"...)
	for _, kind := range kinds {
		list := []api.TLV{{Type: 1, Value: []byte{2, 0x49, 1}}, {Type: 2, Value: []byte("two")}}
		p := packet(kind, room[:2]...)
		k := api.Key{ID: 1, Secret: secret}
		b, _ := mac.Seal(p, k)
		other, _ := mac.Seal(p, k)
		fill(other)
		if !same(p, packet(kind, list...)) || room[2].Type != 77 || string(secret) != "secret" || !allNought(secret[6:100]) {
			t.Fatal("what was handed in, or its spare room, has changed")
		}
		if !bytes.Equal(b, signed(p, place(3, 0, 1), secret)) {
			t.Fatal("an answer hangs on another one")
		}
		in := append(make([]byte, 0, 400), b...)
		x, _ := mac.Open(in, []api.Key{k})
		y, _ := mac.Open(in, []api.Key{k})
		if !bytes.Equal(in, b) || !allNought(in[len(in):400]) || string(secret) != "secret" {
			t.Fatal("what was handed in, or its spare room, has changed")
		}
		fill(in)
		fill(y.TLVs[0].Value)
		if !same(x, packet(kind, list...)) {
			t.Fatal("a packet hangs on its bytes, or on another answer")
		}
		fill(x.TLVs[0].Value)
		if string(x.TLVs[1].Value) != "two" {
			t.Fatal("two values share memory")
		}
	}
	p := append(make([]byte, 0, 100), "Hi There"...)
	mac.Sha(p)
	mac.Hmac(secret, p)
	if string(p) != "Hi There" || !allNought(p[8:100]) || string(secret) != "secret" || !allNought(secret[6:100]) {
		t.Fatal("what was handed in, or its spare room, has changed")
	}
}

func allNought(p []byte) bool {
	return len(bytes.Trim(p, "\x00")) == 0
}

// fill writes over p and its spare room.
func fill(p []byte) {
	p = p[:cap(p)]
	for i := range p {
		p[i] = 0x99
	}
}
