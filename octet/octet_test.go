package octet_test

import (
	"bytes"
	"math"
	"math/rand"
	"slices"
	"strings"
	"testing"

	"waymark/api"
	"waymark/octet"
)

// some answers the same bytes for the same seed, each time.
func some(seed int64, count int) []byte {
	p := make([]byte, count)
	rand.New(rand.NewSource(seed)).Read(p)
	return p
}

// P1.1

func TestNum(t *testing.T) {
	p := []byte{1, 2, 3, 0xff, 0xfe, 0xfd, 0xfc, 0xfb, 0xfa}
	for _, c := range []struct {
		p         []byte
		at, count int
		want      uint64
		e         api.Errno
	}{
		{[]byte{1, 2, 3}, 1, 2, 515, api.OK},
		{[]byte{1}, 0, 2, 0, api.ErrForm},
		{p, 0, 1, 1, api.OK},
		{p, 8, 1, 0xfa, api.OK},
		{p, 0, 8, 0x010203fffefdfcfb, api.OK},
		{p, 1, 8, 0x0203fffefdfcfbfa, api.OK},
		{p, 2, 8, 0, api.ErrForm},
		{p, 3, 3, 0xfffefd, api.OK},
		{p, 9, 1, 0, api.ErrForm},
		{p, 10, 1, 0, api.ErrForm},
		{p, 7, 3, 0, api.ErrForm},
		{bytes.Repeat([]byte{0xff}, 8), 0, 8, math.MaxUint64, api.OK},
		{nil, 0, 1, 0, api.ErrForm},
		{[]byte{}, 0, 1, 0, api.ErrForm},
		{p, 0, 0, 0, api.ErrArg},
		{p, 0, 9, 0, api.ErrArg},
		{p, 0, -1, 0, api.ErrArg},
		{p, -1, 1, 0, api.ErrArg},
		{p, -1, 2, 0, api.ErrArg},
		{nil, 0, 0, 0, api.ErrArg},
		{nil, -1, 1, 0, api.ErrArg},
		{p, 100, 0, 0, api.ErrArg},
		{p, math.MinInt, 8, 0, api.ErrArg},
		{p, 0, math.MinInt, 0, api.ErrArg},
		{p, 0, math.MaxInt, 0, api.ErrArg},
		{p, math.MaxInt, 8, 0, api.ErrForm},
		{p, math.MaxInt - 7, 8, 0, api.ErrForm},
		{p[:3:9], 2, 2, 0, api.ErrForm}, // spare room isn't in p
	} {
		if n, e := octet.Num(c.p, c.at, c.count); n != c.want || e != c.e {
			t.Errorf("Num(%x, %d, %d) = %d, %d; want %d, %d", c.p, c.at, c.count, n, e, c.want, c.e)
		}
	}
}

func TestPut(t *testing.T) {
	for _, c := range []struct {
		n     uint64
		count int
		want  []byte
		e     api.Errno
	}{
		{258, 3, []byte{0, 1, 2}, api.OK},
		{256, 1, nil, api.ErrRange},
		{255, 1, []byte{255}, api.OK},
		{0, 1, []byte{0}, api.OK},
		{0, 8, make([]byte, 8), api.OK},
		{0xffff, 2, []byte{255, 255}, api.OK},
		{0x10000, 2, nil, api.ErrRange},
		{1 << 56, 7, nil, api.ErrRange},
		{1<<56 - 1, 7, bytes.Repeat([]byte{255}, 7), api.OK},
		{1 << 56, 8, []byte{1, 0, 0, 0, 0, 0, 0, 0}, api.OK},
		{math.MaxUint64, 8, bytes.Repeat([]byte{255}, 8), api.OK},
		{math.MaxUint64, 7, nil, api.ErrRange},
		{0x0102030405060708, 8, []byte{1, 2, 3, 4, 5, 6, 7, 8}, api.OK},
		{0, 0, nil, api.ErrArg},
		{0, 9, nil, api.ErrArg},
		{0, -1, nil, api.ErrArg},
		{math.MaxUint64, 0, nil, api.ErrArg},
		{math.MaxUint64, 9, nil, api.ErrArg},
		{1, math.MaxInt, nil, api.ErrArg},
		{1, math.MinInt, nil, api.ErrArg},
	} {
		p, e := octet.Put(c.n, c.count)
		if !bytes.Equal(p, c.want) || e != c.e || e != api.OK && p != nil {
			t.Errorf("Put(%d, %d) = %x, %d; want %x, %d", c.n, c.count, p, e, c.want, c.e)
		}
	}
}

func TestNumOfPut(t *testing.T) {
	for count := 1; count <= 8; count++ {
		for bit := 0; bit < 64; bit++ {
			n := uint64(0x5a5a5a5a5a5a5a5a)>>bit | 1<<(63-bit)
			p, e := octet.Put(n, count)
			if beyond := count < 8 && n>>(8*count) != 0; beyond {
				if p != nil || e != api.ErrRange {
					t.Fatalf("Put(%x, %d) = %x, %d", n, count, p, e)
				}
				continue
			}
			if len(p) != count || e != api.OK {
				t.Fatalf("Put(%x, %d) = %x, %d", n, count, p, e)
			}
			if got, e := octet.Num(p, 0, count); got != n || e != api.OK {
				t.Fatalf("Num(Put(%x, %d)) = %x, %d", n, count, got, e)
			}
		}
	}
}

// P1.2

func TestPlus(t *testing.T) {
	for _, c := range []struct{ a, b, want uint32 }{
		{0, 0, 0},
		{10, 5, 15},
		{4261412863, 0, 4261412863},
		{4261412863, 1, 4261412864},
		{4261412863, 5, 4261412864},
		{4261412862, 1, 4261412863},
		{4261412864, 0, 4261412864},
		{4261412865, 0, 4261412864},
		{4294967295, 0, 4261412864},
		{4294967295, 1, 4261412864}, // beyond 32 bits: no wrap-round
		{4294967295, 4294967295, 4261412864},
		{2147483648, 2147483648, 4261412864},
		{2147483648, 2113929215, 4261412863},
		{16777215, 16777215, 33554430},
	} {
		if n := octet.Plus(c.a, c.b); n != c.want {
			t.Errorf("Plus(%d, %d) = %d; want %d", c.a, c.b, n, c.want)
		}
		if n := octet.Plus(c.b, c.a); n != c.want {
			t.Errorf("Plus(%d, %d) = %d; want %d", c.b, c.a, n, c.want)
		}
	}
}

// P1.3

// hold tells whether both sums of p are multiples of 255, just as the chapter says it.
func hold(p []byte) bool {
	plain, weighed := 0, 0
	for i, b := range p {
		plain += int(b)
		weighed += int(b) * (len(p) - i)
	}
	return plain%255 == 0 && weighed%255 == 0
}

func TestSumExamples(t *testing.T) {
	for _, c := range []struct {
		p    []byte
		at   int
		want uint16
	}{
		{[]byte{0, 0, 0}, 0, 0xffff},
		{[]byte{0, 0, 0}, 1, 0xffff},
		{[]byte{1, 0, 0}, 1, 0xfd01},
		{[]byte{1, 7, 9}, 1, 0xfd01},
		{[]byte{0, 0}, 0, 0xffff},
		{[]byte{1, 2}, 0, 0xffff},
		{[]byte{255, 0, 0}, 1, 0xffff},
	} {
		if sum, e := octet.Sum(c.p, c.at); sum != c.want || e != api.OK {
			t.Errorf("Sum(%x, %d) = %04x, %d; want %04x", c.p, c.at, sum, e, c.want)
		}
	}
}

func TestSumIsTheOnlyOne(t *testing.T) {
	for length := 2; length <= 7; length++ {
		for at := 0; at+1 < length; at++ {
			p := some(int64(length*10+at), length)
			sum, e := octet.Sum(p, at)
			if e != api.OK {
				t.Fatal(p, at, e)
			}
			for x := 0; x < 256; x++ {
				for y := 0; y < 256; y++ {
					p[at], p[at+1] = byte(x), byte(y)
					want := x != 0 && y != 0 && hold(p)
					if want != (int(sum) == x*256+y) {
						t.Fatalf("Sum(%x, %d) = %04x", p, at, sum)
					}
					if ok, e := octet.Right(p, at); ok != want || e != api.OK {
						t.Fatalf("Right(%x, %d) = %t, %d; want %t", p, at, ok, e, want)
					}
				}
			}
		}
	}
}

func TestSumOfManyBytes(t *testing.T) {
	for _, length := range []int{2, 3, 254, 255, 256, 257, 510, 1000, 1491, 1492} {
		for _, fill := range [][]byte{some(int64(length), length), bytes.Repeat([]byte{255}, length), bytes.Repeat([]byte{254}, length), make([]byte, length)} {
			for _, at := range []int{0, 1, length / 2, length - 3, length - 2} {
				if at < 0 || at+1 >= length {
					continue
				}
				p := bytes.Clone(fill)
				sum, e := octet.Sum(p, at)
				if e != api.OK || sum>>8 == 0 || sum&255 == 0 {
					t.Fatalf("%d bytes, at %d: %04x, %d", length, at, sum, e)
				}
				if !bytes.Equal(p, fill) {
					t.Fatal("Sum has changed what it was handed")
				}
				p[at], p[at+1] = byte(sum>>8), byte(sum)
				if !hold(p) {
					t.Fatalf("%d bytes, at %d: %04x doesn't hold", length, at, sum)
				}
				if ok, e := octet.Right(p, at); !ok || e != api.OK {
					t.Fatalf("%d bytes, at %d: Right = %t, %d", length, at, ok, e)
				}
				p[(at+2)%length] += 2 // 1 more may be 255 less, which the sums don't tell apart
				if ok, e := octet.Right(p, at); ok || e != api.OK {
					t.Fatalf("%d bytes, at %d, one byte other: Right = %t, %d", length, at, ok, e)
				}
			}
		}
	}
}

func TestRightLooksAtBothBytes(t *testing.T) {
	for _, c := range []struct {
		p    []byte
		at   int
		want bool
	}{
		{[]byte{1, 0xfd, 1}, 1, true},
		{[]byte{1, 0xfd, 2}, 1, false},
		{[]byte{1, 0xfc, 1}, 1, false},
		{[]byte{1, 1, 0xfd}, 1, false},
		{[]byte{1, 0xfd, 1}, 0, true}, // the sums hold: at any place these are the check bytes
		{[]byte{0, 0xff, 0xff}, 1, true},
		{[]byte{0, 0, 0}, 1, false}, // the sums hold, but a check byte is never 0
		{[]byte{0, 0xff, 0}, 1, false},
		{[]byte{0, 0, 0xff}, 1, false},
	} {
		if ok, e := octet.Right(c.p, c.at); ok != c.want || e != api.OK {
			t.Errorf("Right(%x, %d) = %t, %d; want %t", c.p, c.at, ok, e, c.want)
		}
	}
}

func TestSumErrors(t *testing.T) {
	whole, long := make([]byte, api.MaxPDU), make([]byte, api.MaxPDU+1)
	for _, c := range []struct {
		p  []byte
		at int
		e  api.Errno
	}{
		{nil, 0, api.ErrForm},
		{[]byte{}, 0, api.ErrForm},
		{[]byte{1}, 0, api.ErrForm},
		{[]byte{1, 2}, 0, api.OK},
		{[]byte{1, 2}, 1, api.ErrForm},
		{[]byte{1, 2}, 2, api.ErrForm},
		{[]byte{1, 2, 3}[:2], 1, api.ErrForm}, // spare room isn't in p
		{[]byte{1, 2}, math.MaxInt, api.ErrForm},
		{[]byte{1, 2}, -1, api.ErrArg},
		{[]byte{1, 2}, math.MinInt, api.ErrArg},
		{nil, -1, api.ErrArg},
		{whole, 0, api.OK},
		{whole, api.MaxPDU - 2, api.OK},
		{whole, api.MaxPDU - 1, api.ErrForm},
		{whole, -1, api.ErrArg},
		{long, 0, api.ErrLong},
		{long, api.MaxPDU, api.ErrLong},
		{long, math.MaxInt, api.ErrLong},
		{long, -1, api.ErrArg},
	} {
		sum, e := octet.Sum(c.p, c.at)
		if e != c.e || e != api.OK && sum != 0 {
			t.Errorf("Sum of %d bytes, at %d: %04x, %d; want %d", len(c.p), c.at, sum, e, c.e)
		}
		ok, e := octet.Right(c.p, c.at)
		if e != c.e || ok {
			t.Errorf("Right of %d bytes, at %d: %t, %d; want false, %d", len(c.p), c.at, ok, e, c.e)
		}
	}
}

// P1.4

func TestNames(t *testing.T) {
	for text, id := range map[string]api.SysID{
		"0000.0c12.ab34": {0, 0, 0x0c, 0x12, 0xab, 0x34},
		"0000.0000.0000": {},
		"0000.0000.0001": {0, 0, 0, 0, 0, 1},
		"1000.0000.0000": {0x10},
		"ffff.ffff.ffff": {255, 255, 255, 255, 255, 255},
		"0123.4567.89ab": {1, 0x23, 0x45, 0x67, 0x89, 0xab},
		"cdef.fedc.ba98": {0xcd, 0xef, 0xfe, 0xdc, 0xba, 0x98},
	} {
		if s := octet.Write(id); s != text {
			t.Errorf("Write(%x) = %q; want %q", id, s, text)
		}
		if got, at, e := octet.Parse(text); got != id || at != 0 || e != api.OK {
			t.Errorf("Parse(%q) = %x, %d, %d", text, got, at, e)
		}
	}
}

func TestNamesThereAndBack(t *testing.T) {
	for seed := range int64(500) {
		id := api.SysID(some(seed, 6))
		s := octet.Write(id)
		if got, at, e := octet.Parse(s); got != id || at != 0 || e != api.OK {
			t.Fatalf("Parse(%q) = %x, %d, %d", s, got, at, e)
		}
	}
}

func TestParseErrors(t *testing.T) {
	for s, want := range map[string]int{
		"":                       0,
		"0000":                   4,
		"0000.":                  5,
		"0000.0c12.ab3":          13,
		"0000.0c12.ab345":        14,
		"0000.0c12.ab34.":        14,
		"0000.0c12.ab34\x00":     14,
		"0000.0c12.ab34\n":       14,
		"0000.0C12..":            6,
		"0000.0C12.ab34":         6,
		"0000-0c12.ab34":         4,
		"0000.0c12-ab34":         9,
		"000000000000":           4,
		"00000.0c12.ab34":        4,
		".000.0c12.ab34":         0,
		"000..0c12.ab34":         3,
		"g000.0c12.ab34":         0,
		"0000.0c12.ab3g":         13,
		"0000.0c12.ab3g ":        13, // too long, but not right ahead of that
		"/000.0000.0000":         0,  // the neighbours of the digits
		":000.0000.0000":         0,
		"`000.0000.0000":         0,
		"A000.0000.0000":         0,
		" 0000.0c12.ab34":        0,
		"0x00.0c12.ab34":         1,
		"é000.0000.0000":         0,
		"0000.00é0.0000":         7, // a place is a byte's, not a rune's
		"000é.0000.0000":         3,
		"\xff":                   0,
		"0000.0000.000\xff":      13,
		strings.Repeat("0", 999): 4,
	} {
		if id, at, e := octet.Parse(s); id != (api.SysID{}) || at != want || e != api.ErrText {
			t.Errorf("Parse(%q) = %x, %d, %d; want at %d", s, id, at, e, want)
		}
	}
}

func TestParseOfEachByteAtEachPlace(t *testing.T) {
	const right = "0000.0c12.ab34"
	for place := range len(right) {
		for c := range 256 {
			text := []byte(right)
			text[place] = byte(c)
			can := strings.IndexByte("0123456789abcdef", byte(c)) >= 0
			if place == 4 || place == 9 {
				can = c == '.'
			}
			id, at, e := octet.Parse(string(text))
			switch {
			case can && (at != 0 || e != api.OK || octet.Write(id) != string(text)):
				t.Fatalf("Parse(%q) = %x, %d, %d", text, id, at, e)
			case !can && (at != place || e != api.ErrText || id != api.SysID{}):
				t.Fatalf("Parse(%q) = %x, %d, %d", text, id, at, e)
			}
		}
		if _, at, e := octet.Parse(right[:place]); at != place || e != api.ErrText {
			t.Fatalf("Parse(%q) = %d, %d", right[:place], at, e)
		}
	}
}

// What holds everywhere: memory, P1, P2.

func TestHandedInIsLeft(t *testing.T) {
	room := some(1, 64)
	before := bytes.Clone(room)
	p := room[:20]
	octet.Num(p, 3, 8)
	octet.Sum(p, 3)
	octet.Right(p, 3)
	if !bytes.Equal(room, before) {
		t.Fatal("what was handed in has changed")
	}
}

func TestPutAnswersNewMemory(t *testing.T) {
	one, _ := octet.Put(258, 3)
	two, _ := octet.Put(258, 3)
	for _, p := range [][]byte{one[:cap(one)]} {
		for i := range p {
			p[i] = 0xee
		}
	}
	if !slices.Equal(two, []byte{0, 1, 2}) {
		t.Fatal("an answer shares memory with an earlier one")
	}
	if three, _ := octet.Put(258, 3); !slices.Equal(three, []byte{0, 1, 2}) {
		t.Fatal("a later answer hangs on an earlier one's memory")
	}
}

func TestNothingPanics(t *testing.T) {
	numbers := []int{math.MinInt, math.MinInt + 1, -9, -8, -2, -1, 0, 1, 2, 7, 8, 9, 1491, 1492, 1493, math.MaxInt - 8, math.MaxInt - 1, math.MaxInt}
	for _, length := range []int{0, 1, 2, 7, 8, 9, 1491, 1492, 1493, 5000} {
		p := some(int64(length), length)
		for _, at := range numbers {
			octet.Sum(p, at)
			octet.Right(p, at)
			for _, count := range numbers {
				n, e := octet.Num(p, at, count)
				if m, f := octet.Num(p, at, count); n != m || e != f {
					t.Fatal("asked twice, answered otherwise")
				}
				octet.Put(n, count)
			}
		}
		octet.Parse(string(p))
	}
}
