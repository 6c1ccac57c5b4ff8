package mac

import (
	"bytes"
	"math/bits"

	"waymark/api"
	"waymark/octet"
)

const (
	blockSize  = 64
	wordSize   = 4
	countSize  = 8
	startWords = 16 // words of a block
	allWords   = 64 // words that a block is drawn out to

	innerPad = 0x36
	outerPad = 0x5c
)

// roots holds of each of the first 64 primes the first 32 bits behind the point of its cube root.
var roots = [allWords]uint32{
	0x428a2f98, 0x71374491, 0xb5c0fbcf, 0xe9b5dba5, 0x3956c25b, 0x59f111f1, 0x923f82a4, 0xab1c5ed5,
	0xd807aa98, 0x12835b01, 0x243185be, 0x550c7dc3, 0x72be5d74, 0x80deb1fe, 0x9bdc06a7, 0xc19bf174,
	0xe49b69c1, 0xefbe4786, 0x0fc19dc6, 0x240ca1cc, 0x2de92c6f, 0x4a7484aa, 0x5cb0a9dc, 0x76f988da,
	0x983e5152, 0xa831c66d, 0xb00327c8, 0xbf597fc7, 0xc6e00bf3, 0xd5a79147, 0x06ca6351, 0x14292967,
	0x27b70a85, 0x2e1b2138, 0x4d2c6dfc, 0x53380d13, 0x650a7354, 0x766a0abb, 0x81c2c92e, 0x92722c85,
	0xa2bfe8a1, 0xa81a664b, 0xc24b8b70, 0xc76c51a3, 0xd192e819, 0xd6990624, 0xf40e3585, 0x106aa070,
	0x19a4c116, 0x1e376c08, 0x2748774c, 0x34b0bcb5, 0x391c0cb3, 0x4ed8aa4a, 0x5b9cca4f, 0x682e6ff3,
	0x748f82ee, 0x78a5636f, 0x84c87814, 0x8cc70208, 0x90befffa, 0xa4506ceb, 0xbef9a3f7, 0xc67178f2,
}

// Sha answers the SHA-256 of p.
func Sha(p []byte) [32]byte {
	state := [8]uint32{
		0x6a09e667, 0xbb67ae85, 0x3c6ef372, 0xa54ff53a,
		0x510e527f, 0x9b05688c, 0x1f83d9ab, 0x5be0cd19,
	}
	whole := len(p) - len(p)%blockSize
	// The blocks of p are mixed where they stand: p may be long.
	for at := 0; at < whole; at += blockSize {
		state = mix(state, p[at:])
	}
	for rest := ending(p[whole:], len(p)); len(rest) > 0; rest = rest[blockSize:] {
		state = mix(state, rest)
	}
	return putState(state)
}

// ending answers the last blocks of so many bytes: the rest of these, and what stands behind them.
func ending(rest []byte, count int) []byte {
	p := append(bytes.Clone(rest), 0x80)
	for len(p)%blockSize != blockSize-countSize {
		p = append(p, 0)
	}
	size, _ := octet.Put(uint64(count)*8, countSize) // every number fits
	return append(p, size...)
}

// mix answers the state behind the block that p begins with.
func mix(state [8]uint32, p []byte) [8]uint32 {
	w := drawOut(p)
	a, b, c, d := state[0], state[1], state[2], state[3]
	e, f, g, h := state[4], state[5], state[6], state[7]
	for i := range allWords {
		t1 := h + (turn(e, 6) ^ turn(e, 11) ^ turn(e, 25)) + (e&f ^ ^e&g) + roots[i] + w[i]
		t2 := (turn(a, 2) ^ turn(a, 13) ^ turn(a, 22)) + (a&b ^ a&c ^ b&c)
		h, g, f, e, d, c, b, a = g, f, e, d+t1, c, b, a, t1+t2
	}
	return [8]uint32{
		state[0] + a, state[1] + b, state[2] + c, state[3] + d,
		state[4] + e, state[5] + f, state[6] + g, state[7] + h,
	}
}

// drawOut answers the words of the block that p begins with, and those that are made of them.
func drawOut(p []byte) [allWords]uint32 {
	var w [allWords]uint32
	for i := range startWords {
		n, _ := octet.Num(p, i*wordSize, wordSize) // a block is there
		w[i] = uint32(n)
	}
	for i := startWords; i < allWords; i++ {
		s0 := turn(w[i-15], 7) ^ turn(w[i-15], 18) ^ w[i-15]>>3
		s1 := turn(w[i-2], 17) ^ turn(w[i-2], 19) ^ w[i-2]>>10
		w[i] = w[i-16] + s0 + w[i-7] + s1
	}
	return w
}

// turn answers x turned right by so many bits.
func turn(x uint32, by int) uint32 {
	return bits.RotateLeft32(x, -by)
}

// putState answers the bytes of a state's words.
func putState(state [8]uint32) [32]byte {
	var p [32]byte
	for i, word := range state {
		put, _ := octet.Put(uint64(word), wordSize) // a word fits
		copy(p[i*wordSize:], put)
	}
	return p
}

// Hmac answers the HMAC of p with the key.
func Hmac(key, p []byte) ([32]byte, api.Errno) {
	if len(key) > blockSize {
		return [32]byte{}, api.ErrLong
	}
	inner := Sha(append(padded(key, innerPad), p...))
	return Sha(append(padded(key, outerPad), inner[:]...)), api.OK
}

// padded answers the key made as long as a block, each byte xor pad.
func padded(key []byte, pad byte) []byte {
	block := make([]byte, blockSize)
	copy(block, key)
	for i := range block {
		block[i] ^= pad
	}
	return block
}
