// Package octet is layer 1: numbers as bytes, names of routers, sums of metrics, ISO 10589's check sum.
package octet

import "waymark/api"

const (
	mostBytes  = 8 // of a number
	modulus    = 255
	textLength = 14 // of a name's text
	group      = 5  // four digits and the point behind them
	digits     = "0123456789abcdef"
)

// Num answers the number that the count bytes of p from at on are, the highest first.
func Num(p []byte, at, count int) (uint64, api.Errno) {
	if count < 1 || count > mostBytes || at < 0 {
		return 0, api.ErrArg
	}
	// Not at + count: that sum may be beyond the greatest int.
	if at > len(p)-count {
		return 0, api.ErrForm
	}
	var n uint64
	for _, b := range p[at : at+count] {
		n = n<<8 | uint64(b)
	}
	return n, api.OK
}

// Put answers n in count bytes, the highest first.
func Put(n uint64, count int) ([]byte, api.Errno) {
	if count < 1 || count > mostBytes {
		return nil, api.ErrArg
	}
	p := make([]byte, count)
	for i := range count {
		p[count-1-i] = byte(n)
		n >>= 8
	}
	if n != 0 {
		return nil, api.ErrRange
	}
	return p, api.OK
}

// Plus answers the sum of two metrics, but no more than MaxPath.
func Plus(a, b uint32) uint32 {
	return uint32(min(uint64(a)+uint64(b), api.MaxPath))
}

// Sum answers the check bytes that p must have at the places at and at + 1.
func Sum(p []byte, at int) (uint16, api.Errno) {
	if e := checkPlace(p, at); e != api.OK {
		return 0, e
	}
	plain, weighed := 0, 0
	for i, b := range p {
		if i != at && i != at+1 {
			plain += int(b)
			weighed += int(b) * (len(p) - i)
		}
	}
	// With w = len(p)-at, modulo 255: x + y = -plain and w*x + (w-1)*y = -weighed.
	// The second one less w-1 times the first one leaves x alone.
	x := checkByte(plain*(len(p)-at-1) - weighed)
	y := checkByte(-plain - x)
	return uint16(x)<<8 | uint16(y), api.OK
}

// Right tells whether p has its check bytes at the places at and at + 1.
func Right(p []byte, at int) (bool, api.Errno) {
	sum, e := Sum(p, at)
	if e != api.OK {
		return false, e
	}
	return p[at] == byte(sum>>8) && p[at+1] == byte(sum), api.OK
}

// checkPlace tells what keeps p from having check bytes at the places at and at + 1.
func checkPlace(p []byte, at int) api.Errno {
	switch {
	case at < 0:
		return api.ErrArg
	case len(p) > api.MaxPDU:
		return api.ErrLong
	case at > len(p)-2:
		return api.ErrForm
	}
	return api.OK
}

// checkByte answers the number from 1 to 255 that is n modulo 255: a check byte is never 0.
func checkByte(n int) int {
	n %= modulus
	if n <= 0 {
		n += modulus
	}
	return n
}

// Write answers the text of a router's name.
func Write(id api.SysID) string {
	var text [textLength]byte
	for i := range textLength {
		if isPoint(i) {
			text[i] = '.'
			continue
		}
		at, shift := digitPlace(i)
		text[i] = digits[id[at]>>shift&15]
	}
	return string(text[:])
}

// Parse answers the name of which s is the text; beside ErrText the place at which s isn't one.
func Parse(s string) (api.SysID, int, api.Errno) {
	var id api.SysID
	for i := range textLength {
		if i >= len(s) {
			return api.SysID{}, i, api.ErrText
		}
		if isPoint(i) {
			if s[i] != '.' {
				return api.SysID{}, i, api.ErrText
			}
			continue
		}
		d, ok := digit(s[i])
		if !ok {
			return api.SysID{}, i, api.ErrText
		}
		at, shift := digitPlace(i)
		id[at] |= d << shift
	}
	if len(s) > textLength {
		return api.SysID{}, textLength, api.ErrText
	}
	return id, 0, api.OK
}

// isPoint tells whether a point stands at the place i of a name's text.
func isPoint(i int) bool {
	return i%group == group-1
}

// digitPlace answers in which byte of a name the digit at the place i of its text stands, and by how many bits up.
func digitPlace(i int) (at, shift int) {
	n := i - i/group
	return n / 2, 4 - n%2*4
}

// digit answers what the digit c to the base 16 counts; false: it is none (a great letter is none).
func digit(c byte) (byte, bool) {
	switch {
	case '0' <= c && c <= '9':
		return c - '0', true
	case 'a' <= c && c <= 'f':
		return c - 'a' + 10, true
	}
	return 0, false
}
