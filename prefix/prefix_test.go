package prefix_test

import (
	"bytes"
	"fmt"
	"math"
	"math/rand"
	"net/netip"
	"strings"
	"testing"

	"waymark/api"
	"waymark/prefix"
)

// four and six answer prefixes as they are told, in form or not.
func four(length int, addr ...byte) api.Prefix {
	p := api.Prefix{Fam: 4, Len: length}
	copy(p.Addr[:], addr)
	return p
}

func six(length int, groups ...uint16) api.Prefix {
	p := api.Prefix{Fam: 6, Len: length}
	for i, g := range groups {
		p.Addr[2*i], p.Addr[2*i+1] = byte(g>>8), byte(g)
	}
	return p
}

// notInForm: each of these is refused wherever a prefix is handed in.
var notInForm = []api.Prefix{
	{},
	{Fam: 1}, {Fam: 5}, {Fam: 7}, {Fam: 46}, {Fam: 255, Len: 8}, {Fam: 5, Len: 200},
	four(-1), four(33), four(64), four(128), four(math.MinInt), four(math.MaxInt),
	six(-1), six(129), six(256), six(math.MinInt), six(math.MaxInt),
	four(8, 10, 1), four(0, 128), four(0, 1), four(31, 0, 0, 0, 1), four(7, 1), four(15, 10, 1), four(16, 10, 1, 128),
	four(32, 10, 0, 0, 0, 1), four(0, 0, 0, 0, 0, 128), four(32, 10, 0, 0, 0, 0, 0, 0, 0, 0, 0, 0, 0, 0, 0, 0, 1),
	six(0, 0x8000), six(32, 0x2001, 0xdb8, 1), six(127, 0, 0, 0, 0, 0, 0, 0, 1), six(9, 0xff40), six(0, 0, 0, 0, 0, 0, 0, 0, 1),
}

// keepFirst answers the first count bits, bit by bit.
func keepFirst(addr [16]byte, count int) [16]byte {
	for bit := max(count, 0); bit < 128; bit++ {
		addr[bit/8] &^= 0x80 >> (bit % 8)
	}
	return addr
}

// some answers prefixes in form, with many noughts, near to one another; the same ones for the same seed.
func some(seed int64, count int) []api.Prefix {
	r := rand.New(rand.NewSource(seed))
	var list []api.Prefix
	for range count {
		p, size := api.Prefix{Fam: 4, Len: r.Intn(33)}, 4
		if r.Intn(2) > 0 {
			p, size = api.Prefix{Fam: 6, Len: r.Intn(129)}, 16
		}
		for i := range size {
			if r.Intn(3) == 0 {
				p.Addr[i] = []byte{1, 10, 128, 255, byte(r.Intn(256))}[r.Intn(5)]
			}
		}
		p.Addr = keepFirst(p.Addr, p.Len)
		list = append(list, p)
	}
	return list
}

// P3.1

func TestCheck(t *testing.T) {
	for _, p := range notInForm {
		if e := prefix.Check(p); e != api.ErrForm {
			t.Errorf("Check(%v) = %d", p, e)
		}
	}
	for _, p := range []api.Prefix{
		four(0), four(32), four(32, 255, 255, 255, 255), four(8, 10), four(7, 254), four(31, 0, 0, 0, 254), four(16), four(9, 10, 128),
		six(0), six(128), six(128, 65535, 65535, 65535, 65535, 65535, 65535, 65535, 65535), six(33, 0x2001, 0xdb8, 0x8000), six(127, 0, 0, 0, 0, 0, 0, 0, 2),
	} {
		if e := prefix.Check(p); e != api.OK {
			t.Errorf("Check(%v) = %d", p, e)
		}
	}
}

func TestCheckOfEachBit(t *testing.T) {
	for _, fam := range []byte{4, 6} {
		most := map[byte]int{4: 32, 6: 128}[fam]
		for length := 0; length <= most; length++ {
			for bit := range 128 {
				p := api.Prefix{Fam: fam, Len: length}
				p.Addr[bit/8] = 0x80 >> (bit % 8)
				want := api.OK
				if bit >= length {
					want = api.ErrForm
				}
				if e := prefix.Check(p); e != want {
					t.Fatalf("Check(%v) = %d; want %d", p, e, want)
				}
			}
		}
	}
}

func TestCut(t *testing.T) {
	full := bytes.Repeat([]byte{255}, 16)
	for _, c := range []struct {
		p    api.Prefix
		len  int
		want api.Prefix
		e    api.Errno
	}{
		{four(16, 10, 1), 8, four(8, 10), api.OK},
		{four(16, 10, 1), 16, four(16, 10, 1), api.OK},
		{four(16, 10, 1), 15, four(15, 10), api.OK},
		{four(16, 10, 1), 0, four(0), api.OK},
		{four(0), 0, four(0), api.OK},
		{four(16, full...), 9, four(9, 255, 128), api.OK}, // the bits behind, whatever they were
		{four(16, full...), 16, four(16, 255, 255), api.OK},
		{four(32, full...), 32, four(32, 255, 255, 255, 255), api.OK},
		{four(0, full...), 0, four(0), api.OK},
		{six(128, 0x2001, 0xdb8, 0, 0, 0, 0, 0, 1), 32, six(32, 0x2001, 0xdb8), api.OK},
		{six(128, 0x2001, 0xdb8, 0, 0, 0, 0, 0, 1), 128, six(128, 0x2001, 0xdb8, 0, 0, 0, 0, 0, 1), api.OK},
		{six(128, 65535, 65535), 17, six(17, 65535, 0x8000), api.OK},
		{four(16, 10, 1), 17, api.Prefix{}, api.ErrArg},
		{four(16, 10, 1), -1, api.Prefix{}, api.ErrArg},
		{four(16, 10, 1), math.MaxInt, api.Prefix{}, api.ErrArg},
		{four(16, 10, 1), math.MinInt, api.Prefix{}, api.ErrArg},
		{six(128), 129, api.Prefix{}, api.ErrArg},
		{api.Prefix{}, 0, api.Prefix{}, api.ErrForm},
		{api.Prefix{}, 1, api.Prefix{}, api.ErrArg}, // the least number
		{api.Prefix{Fam: 5, Len: 8}, 8, api.Prefix{}, api.ErrForm},
		{api.Prefix{Fam: 5, Len: 8}, 9, api.Prefix{}, api.ErrArg},
		{four(33), 33, api.Prefix{}, api.ErrForm},
		{four(33), 8, api.Prefix{}, api.ErrForm},
		{four(33), 34, api.Prefix{}, api.ErrArg},
		{six(129), 129, api.Prefix{}, api.ErrForm},
		{six(129), 128, api.Prefix{}, api.ErrForm},
		{four(math.MaxInt), math.MaxInt, api.Prefix{}, api.ErrForm},
		{four(-1), 0, api.Prefix{}, api.ErrArg},
		{four(-1), -1, api.Prefix{}, api.ErrArg},
		{four(math.MinInt), 0, api.Prefix{}, api.ErrArg},
	} {
		if p, e := prefix.Cut(c.p, c.len); p != c.want || e != c.e {
			t.Errorf("Cut(%v, %d) = %v, %d; want %v, %d", c.p, c.len, p, e, c.want, c.e)
		}
	}
}

func TestCutOfEachLength(t *testing.T) {
	r := rand.New(rand.NewSource(1))
	for _, whole := range []api.Prefix{four(32), six(128)} {
		r.Read(whole.Addr[:])
		for length := 0; length <= whole.Len; length++ {
			want := api.Prefix{Fam: whole.Fam, Len: length, Addr: keepFirst(whole.Addr, length)}
			if p, e := prefix.Cut(whole, length); p != want || e != api.OK {
				t.Fatalf("Cut(%v, %d) = %v, %d", whole, length, p, e)
			}
		}
	}
}

func TestCovers(t *testing.T) {
	for _, c := range []struct {
		p, q api.Prefix
		want bool
	}{
		{four(8, 10), four(16, 10, 1), true},
		{four(16, 10, 1), four(8, 10), false},
		{four(8, 10), four(8, 10), true},
		{four(8, 10), four(9, 10), true},
		{four(8, 10), four(7, 10), false},
		{four(8, 10), four(8, 11), false},
		{four(8, 10), four(16, 11, 1), false},
		{four(0), four(32, 255, 255, 255, 255), true},
		{four(0), four(0), true},
		{four(32, 1, 2, 3, 4), four(32, 1, 2, 3, 4), true},
		{four(32, 1, 2, 3, 4), four(32, 1, 2, 3, 5), false},
		{four(15, 10, 2), four(16, 10, 3), true},
		{four(15, 10, 2), four(16, 10, 1), false},
		{six(32, 0x2001, 0xdb8), six(128, 0x2001, 0xdb8, 0, 0, 1), true},
		{six(32, 0x2001, 0xdb8), six(128, 0x2001, 0xdb9), false},
		{six(0), six(0), true},
		{six(127), six(128, 0, 0, 0, 0, 0, 0, 0, 1), true},
		{six(128), six(128, 0, 0, 0, 0, 0, 0, 0, 1), false},
		{four(0), six(0), false}, // of two families
		{six(0), four(0), false},
		{six(0), four(8, 10), false},
		{six(8, 0x0a00), four(16, 10, 1), false},
	} {
		if ok, e := prefix.Covers(c.p, c.q); ok != c.want || e != api.OK {
			t.Errorf("Covers(%v, %v) = %t, %d; want %t", c.p, c.q, ok, e, c.want)
		}
	}
}

func TestCoversIsBitByBit(t *testing.T) {
	list := some(2, 150)
	for _, p := range list {
		for _, q := range list {
			want := p.Fam == q.Fam && p.Len <= q.Len && keepFirst(q.Addr, p.Len) == p.Addr
			if ok, e := prefix.Covers(p, q); ok != want || e != api.OK {
				t.Fatalf("Covers(%v, %v) = %t, %d; want %t", p, q, ok, e, want)
			}
		}
	}
}

func TestNotInFormIsRefused(t *testing.T) {
	right := four(8, 10)
	for _, p := range notInForm {
		if ok, e := prefix.Covers(p, right); ok || e != api.ErrForm {
			t.Errorf("Covers(%v, ..) = %t, %d", p, ok, e)
		}
		if ok, e := prefix.Covers(right, p); ok || e != api.ErrForm {
			t.Errorf("Covers(.., %v) = %t, %d", p, ok, e)
		}
		if ok, e := prefix.Covers(p, p); ok || e != api.ErrForm {
			t.Errorf("Covers(%v twice) = %t, %d", p, ok, e)
		}
		if n, e := prefix.Cmp(p, right); n != 0 || e != api.ErrForm {
			t.Errorf("Cmp(%v, ..) = %d, %d", p, n, e)
		}
		if n, e := prefix.Cmp(right, p); n != 0 || e != api.ErrForm {
			t.Errorf("Cmp(.., %v) = %d, %d", p, n, e)
		}
		if n, e := prefix.Cmp(p, p); n != 0 || e != api.ErrForm {
			t.Errorf("Cmp(%v twice) = %d, %d", p, n, e)
		}
		if s, e := prefix.Write(p); s != "" || e != api.ErrForm {
			t.Errorf("Write(%v) = %q, %d", p, s, e)
		}
	}
}

// P3.2

func TestCmp(t *testing.T) {
	ordered := []api.Prefix{
		four(0), four(1), four(32), four(32, 0, 0, 0, 1), four(8, 9), four(9, 9), four(8, 10), four(16, 10), four(16, 10, 1), four(8, 127), four(1, 128), four(32, 255, 255, 255, 255),
		six(0), six(1), six(128), six(128, 0, 0, 0, 0, 0, 0, 0, 1), six(16, 1), six(16, 0x00ff), six(16, 0x0100), six(32, 0x2001, 0xdb8), six(33, 0x2001, 0xdb8), six(1, 0x8000),
	}
	for i, p := range ordered {
		for j, q := range ordered {
			want := 0
			switch {
			case i < j:
				want = -1
			case i > j:
				want = 1
			}
			if n, e := prefix.Cmp(p, q); n != want || e != api.OK {
				t.Errorf("Cmp(%v, %v) = %d, %d; want %d", p, q, n, e, want)
			}
		}
	}
}

// P3.3

var texts = map[string]api.Prefix{
	"0.0.0.0/0":             four(0),
	"0.0.0.0/32":            four(32),
	"10.1.0.0/16":           four(16, 10, 1),
	"10.0.0.0/8":            four(8, 10),
	"255.255.255.255/32":    four(32, 255, 255, 255, 255),
	"1.2.3.4/32":            four(32, 1, 2, 3, 4),
	"100.0.0.200/30":        four(30, 100, 0, 0, 200),
	"::/0":                  six(0),
	"::/128":                six(128),
	"::1/128":               six(128, 0, 0, 0, 0, 0, 0, 0, 1),
	"1::/16":                six(16, 1),
	"fe80::/10":             six(10, 0xfe80),
	"2001:db8::/32":         six(32, 0x2001, 0xdb8),
	"2001:db8:0:0:1::/128":  six(128, 0x2001, 0xdb8, 0, 0, 1, 0, 0, 0),
	"2001:db8::1:0:0:1/128": six(128, 0x2001, 0xdb8, 0, 0, 1, 0, 0, 1), // the first of the longest
	"0:0:0:1::/128":         six(128, 0, 0, 0, 1),
	"::1:0:0:0/128":         six(128, 0, 0, 0, 0, 1, 0, 0, 0),
	"1:2:3:4:5:6:7:8/128":   six(128, 1, 2, 3, 4, 5, 6, 7, 8),
	"1:2:3:4:5:6:7:0/128":   six(128, 1, 2, 3, 4, 5, 6, 7, 0),
	"0:2:3:4:5:6:7:8/128":   six(128, 0, 2, 3, 4, 5, 6, 7, 8),
	"1:0:3:0:5:0:7:0/128":   six(128, 1, 0, 3, 0, 5, 0, 7, 0),
	"1:2:3:4:5:6::/128":     six(128, 1, 2, 3, 4, 5, 6),
	"::3:4:5:6:7:8/128":     six(128, 0, 0, 3, 4, 5, 6, 7, 8),
	"1::4:5:6:7:8/128":      six(128, 1, 0, 0, 4, 5, 6, 7, 8),
	"1::4:0:0:7:8/128":      six(128, 1, 0, 0, 4, 0, 0, 7, 8),
	"1:0:0:4::8/128":        six(128, 1, 0, 0, 4, 0, 0, 0, 8),
	"a:b0:c00:d000::/52":    six(52, 0xa, 0xb0, 0xc00, 0xd000),
	"ffff:ffff:ffff:ffff:ffff:ffff:ffff:ffff/128": six(128, 65535, 65535, 65535, 65535, 65535, 65535, 65535, 65535),
	"::ffff:102:304/128":                          six(128, 0, 0, 0, 0, 0, 0xffff, 0x102, 0x304),
}

func TestTexts(t *testing.T) {
	for s, p := range texts {
		if got, e := prefix.Write(p); got != s || e != api.OK {
			t.Errorf("Write(%v) = %q, %d; want %q", p, got, e, s)
		}
		if got, e := prefix.Parse(s); got != p || e != api.OK {
			t.Errorf("Parse(%q) = %v, %d; want %v", s, got, e, p)
		}
	}
}

// write answers the text of a prefix in form, found by going through all rows, the longest ones first.
func write(p api.Prefix) string {
	if p.Fam == 4 {
		return fmt.Sprintf("%d.%d.%d.%d/%d", p.Addr[0], p.Addr[1], p.Addr[2], p.Addr[3], p.Len)
	}
	var groups []string
	for i := 0; i < 16; i += 2 {
		groups = append(groups, fmt.Sprintf("%x", int(p.Addr[i])*256+int(p.Addr[i+1])))
	}
	for row := 8; row >= 2; row-- {
		for at := 0; at+row <= 8; at++ {
			if strings.Trim(strings.Join(groups[at:at+row], ""), "0") == "" {
				return strings.Join(groups[:at], ":") + "::" + strings.Join(groups[at+row:], ":") + fmt.Sprintf("/%d", p.Len)
			}
		}
	}
	return strings.Join(groups, ":") + fmt.Sprintf("/%d", p.Len)
}

func TestTextsOfEachRowOfNoughts(t *testing.T) {
	for noughts := range 256 {
		for _, n := range []uint16{1, 0x10, 0x100, 0xabcd} {
			var groups []uint16
			for i := range 8 {
				groups = append(groups, n*uint16(noughts>>i&1))
			}
			p := six(128, groups...)
			s, e := prefix.Write(p)
			if s != write(p) || e != api.OK {
				t.Fatalf("Write(%v) = %q, %d; want %q", p, s, e, write(p))
			}
			if got, e := prefix.Parse(s); got != p || e != api.OK {
				t.Fatalf("Parse(%q) = %v, %d", s, got, e)
			}
		}
	}
}

func TestTextsThereAndBack(t *testing.T) {
	for _, p := range some(3, 5000) {
		s, e := prefix.Write(p)
		if s != write(p) || e != api.OK {
			t.Fatalf("Write(%v) = %q, %d; want %q", p, s, e, write(p))
		}
		if got, e := prefix.Parse(s); got != p || e != api.OK {
			t.Fatalf("Parse(%q) = %v, %d", s, got, e)
		}
	}
}

func TestParseErrors(t *testing.T) {
	for _, s := range []string{
		"", "/", "/0", "/8", "0/0", "0", "::", "10.0.0.0", "10.0.0.0/", "::/", "10/8", "10.1/16", "10.1.2/24",
		"10.1.2.0/16", "10.0.0.0/33", "10.0.0.0/64", "10.0.0.0/128", "10.0.0.0/256", "10.0.0.0/08", "10.0.0.0/00", "0.0.0.0/00", "10.0.0.0/+8", "10.0.0.0/-8", "0.0.0.0/-0", "10.0.0.0/8.", "10.0.0.0/8/", "10.0.0.0/8/8", "10.0.0.0//8", "10.0.0.0/ 8", "10.0.0.0/8 ", " 10.0.0.0/8", "10.0.0.0/8\n", "10.0.0.0/8\x00", "10.0.0.0/a", "10.0.0.0/0x8", "10.0.0.0/4294967304", "10.0.0.0/18446744073709551624",
		"010.0.0.0/8", "00.0.0.0/0", "10.0.0.00/8", "10.0.0.0.0/8", "10.0.0.0.0.0.0.0/8", "10.0.0.0.0.0.0.0.0/8", ".10.0.0.0/8", "10..0.0/8", "10.0.0./8", "10.0.0.0./8", "256.0.0.0/8", "300.0.0.0/8", "1000.0.0.0/8", "4294967306.0.0.0/8", "+10.0.0.0/8", "-10.0.0.0/8", "a.0.0.0/8", "0xa.0.0.0/8", "1_0.0.0.0/8", "10,0,0,0/8", "\u0661.0.0.0/8", "1.2.3.4.5/32", "1.2.3.4.0/32",
		"2001:0::/32", "1:2:3:4:5:6:7::/128", "::2:3:4:5:6:7:8/128", "1::3:4:5:6:7:8/128", "1:2:3:4:5:6:7:8::/128", "::1:2:3:4:5:6:7:8/128", "1:2:3:4::5:6:7:8/128", "1:2:3:4:5::6:7:8:9/128",
		"1:2:3:4:5:6:7/128", "1:2:3:4:5:6:7:8:9/128", "::1:2:3:4:5:6:7:8:9/128", "1:2:3:4:5:6:7:8:9::/128", "1:2:3:4:5:6:7:8:/128", ":1:2:3:4:5:6:7:8/128", ":1:2:3:4:5:6:7/128", "1:2:3:4:5:6:7:/128", ":/0", ":::/0", "::::/0", "1:::/16", ":::1/128", "1::2::3/128", "::1::/128", ":1::/128", "::1:/128",
		"0:0:0:0:0:0:0:0/0", "0::/0", "::0/0", "0::0/0", "0:0:0:0:0:0:0:1/128", "1:0:0:4:5:6:7:8/128", "1:0:0:4::7:8/128", "2001:db8::1:0:0:0/128", "2001:db8:0:0:1::1/128", "1:0:0:4:5:0:0:8/128", "1:2:3:0:0:6::/128",
		"2001:DB8::/32", "2001:dB8::/32", "2001:0db8::/32", "01::/16", "00::/0", "10000::/16", "fffff::/16", "g::/16", "0x1::/16", "+1::/16", "1_0::/16", "::/129", "::/256", "::/-1", "::/00", "::/0 ", "::/+0", "::1/127", "::1/0", "2001:db8:1::/32", "fec0::/9", "fe80::%1/10",
		"::1.2.3.4/128", "::ffff:1.2.3.4/128", "1.2.3.4::/128", "1:2.3.4/8", "10.0.0.0:/8", "[::]/0",
	} {
		if p, e := prefix.Parse(s); p != (api.Prefix{}) || e != api.ErrText {
			t.Errorf("Parse(%q) = %v, %d", s, p, e)
		}
	}
}

// parse answers the prefix of which s is the text, by the library.
func parse(s string) (api.Prefix, api.Errno) {
	n, err := netip.ParsePrefix(s)
	if err != nil || n != n.Masked() {
		return api.Prefix{}, api.ErrText
	}
	p := api.Prefix{Fam: 6, Len: n.Bits()}
	if n.Addr().Is4() {
		p.Fam = 4
	}
	copy(p.Addr[:], n.Addr().AsSlice())
	if write(p) != s {
		return api.Prefix{}, api.ErrText
	}
	return p, api.OK
}

func TestParseOfTextsThatAreNearlyRight(t *testing.T) {
	try := func(s string) {
		want, f := parse(s)
		if p, e := prefix.Parse(s); p != want || e != f {
			t.Fatalf("Parse(%q) = %v, %d; want %v, %d", s, p, e, want, f)
		}
	}
	for s := range texts {
		for at := range len(s) + 1 {
			try(s[:at])
			try(s[at:])
			try(s[:at] + s)
			for _, c := range []byte("0123456789afAg:./ +-_%x\x00\xff") {
				try(s[:at] + string([]byte{c}) + s[at:])
				if at < len(s) {
					try(s[:at] + string([]byte{c}) + s[at+1:])
				}
			}
			if at < len(s) {
				try(s[:at] + s[at+1:])
				try(s[:at] + s[at:at+1] + s[at:])
			}
		}
	}
}

func TestParseOfLongTexts(t *testing.T) {
	for _, piece := range []string{"0", "1", ":", "::", ".", "/", "1:", "1.", "0:", "a", "::1", "\x00"} {
		long := strings.Repeat(piece, 1<<20)
		for _, s := range []string{long, long + "/0", "::" + long + "/128", "10.0.0.0/" + long, "1:" + long + "::/128"} {
			if p, e := prefix.Parse(s); p != (api.Prefix{}) || e != api.ErrText {
				t.Fatalf("Parse of %q and so on = %v, %d", s[:9], p, e)
			}
		}
	}
}

// What holds everywhere: P1, P2.

func TestNothingPanics(t *testing.T) {
	r := rand.New(rand.NewSource(4))
	numbers := []int{math.MinInt, math.MinInt + 1, -129, -33, -8, -1, 0, 1, 7, 8, 9, 31, 32, 33, 127, 128, 129, 1000, math.MaxInt - 1, math.MaxInt}
	var list []api.Prefix
	for fam := range 8 {
		for _, length := range numbers {
			p := api.Prefix{Fam: byte(fam), Len: length}
			r.Read(p.Addr[:])
			list = append(list, p)
		}
	}
	for _, p := range list {
		for _, n := range numbers {
			q, e := prefix.Cut(p, n)
			if e == api.OK && prefix.Check(q) != api.OK {
				t.Fatalf("Cut(%v, %d) = %v", p, n, q)
			}
			if again, f := prefix.Cut(p, n); again != q || f != e {
				t.Fatal("asked twice, answered otherwise")
			}
			prefix.Covers(p, q)
			prefix.Cmp(q, p)
			prefix.Write(p)
		}
	}
	for range 20000 {
		s := make([]byte, r.Intn(24))
		for i := range s {
			s[i] = "0123456789abcdef:::...//"[r.Intn(24)]
		}
		want, f := parse(string(s))
		if p, e := prefix.Parse(string(s)); p != want || e != f {
			t.Fatalf("Parse(%q) = %v, %d; want %v, %d", s, p, e, want, f)
		}
	}
}
