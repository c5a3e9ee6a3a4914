package sum

import (
	"math/bits"

	"selvage/api"
)

const blockSize = 64

// Hash takes bytes as they come.
type Hash struct {
	state [8]uint32
	wait  [blockSize]byte // bytes that do not make a block yet
	count uint64          // all bytes so far
}

// New tells a Hash to which nothing was written.
func New() *Hash {
	return &Hash{}
}

// Write takes rows, one behind the other.
func (h *Hash) Write(l ...[]byte) {
	for _, row := range l {
		h.take(row)
	}
}

// Sum tells the sum so far; it works on a copy, so that more may be written behind it.
func (h *Hash) Sum() api.Id {
	last := *h
	last.finish()
	var out api.Id
	for k, word := range last.state {
		putWord(out[4*k:], word)
	}
	return out
}

func (h *Hash) take(row []byte) {
	if h.count == 0 {
		h.state = firstState()
	}
	waiting := int(h.count % blockSize)
	h.count += uint64(len(row))
	if waiting > 0 {
		n := copy(h.wait[waiting:], row)
		row = row[n:]
		if waiting+n < blockSize {
			return
		}
		h.mix(h.wait[:])
	}
	whole := len(row) - len(row)%blockSize
	h.mix(row[:whole])
	copy(h.wait[:], row[whole:])
}

// finish puts the end of FIPS 180-4 behind the bytes: a bit, noughts, how many bits there were.
func (h *Hash) finish() {
	length := h.count * 8
	var end [2 * blockSize]byte
	end[0] = 0x80
	n := blockSize - int(h.count%blockSize)
	if n < 9 {
		n += blockSize
	}
	putWord(end[n-8:], uint32(length>>32))
	putWord(end[n-4:], uint32(length))
	h.take(end[:n])
}

// mix works whole blocks into the state.
func (h *Hash) mix(blocks []byte) {
	round := roundConstants()
	var w [64]uint32
	for ; len(blocks) >= blockSize; blocks = blocks[blockSize:] {
		for t := range 16 {
			w[t] = word(blocks[4*t:])
		}
		for t := 16; t < len(w); t++ {
			w[t] = small(w[t-2], 17, 19, 10) + w[t-7] + small(w[t-15], 7, 18, 3) + w[t-16]
		}
		h.rounds(&w, &round)
	}
}

func (h *Hash) rounds(w, round *[64]uint32) {
	s := &h.state
	a, b, c, d, e, f, g, i := s[0], s[1], s[2], s[3], s[4], s[5], s[6], s[7]
	for t := range w {
		t1 := i + big(e, 6, 11, 25) + (e&f ^ ^e&g) + round[t] + w[t]
		t2 := big(a, 2, 13, 22) + (a&b ^ a&c ^ b&c)
		a, b, c, d, e, f, g, i = t1+t2, a, b, c, d+t1, e, f, g
	}
	for k, x := range [8]uint32{a, b, c, d, e, f, g, i} {
		s[k] += x
	}
}

func big(x uint32, a, b, c int) uint32 {
	return bits.RotateLeft32(x, -a) ^ bits.RotateLeft32(x, -b) ^ bits.RotateLeft32(x, -c)
}

func small(x uint32, a, b, shift int) uint32 {
	return bits.RotateLeft32(x, -a) ^ bits.RotateLeft32(x, -b) ^ x>>shift
}

func word(b []byte) uint32 {
	return uint32(b[0])<<24 | uint32(b[1])<<16 | uint32(b[2])<<8 | uint32(b[3])
}

func putWord(b []byte, x uint32) {
	b[0], b[1], b[2], b[3] = byte(x>>24), byte(x>>16), byte(x>>8), byte(x)
}

func firstState() [8]uint32 {
	return [8]uint32{
		0x6a09e667, 0xbb67ae85, 0x3c6ef372, 0xa54ff53a, 0x510e527f, 0x9b05688c, 0x1f83d9ab, 0x5be0cd19,
	}
}

func roundConstants() [64]uint32 {
	return [64]uint32{
		0x428a2f98, 0x71374491, 0xb5c0fbcf, 0xe9b5dba5, 0x3956c25b, 0x59f111f1, 0x923f82a4, 0xab1c5ed5,
		0xd807aa98, 0x12835b01, 0x243185be, 0x550c7dc3, 0x72be5d74, 0x80deb1fe, 0x9bdc06a7, 0xc19bf174,
		0xe49b69c1, 0xefbe4786, 0x0fc19dc6, 0x240ca1cc, 0x2de92c6f, 0x4a7484aa, 0x5cb0a9dc, 0x76f988da,
		0x983e5152, 0xa831c66d, 0xb00327c8, 0xbf597fc7, 0xc6e00bf3, 0xd5a79147, 0x06ca6351, 0x14292967,
		0x27b70a85, 0x2e1b2138, 0x4d2c6dfc, 0x53380d13, 0x650a7354, 0x766a0abb, 0x81c2c92e, 0x92722c85,
		0xa2bfe8a1, 0xa81a664b, 0xc24b8b70, 0xc76c51a3, 0xd192e819, 0xd6990624, 0xf40e3585, 0x106aa070,
		0x19a4c116, 0x1e376c08, 0x2748774c, 0x34b0bcb5, 0x391c0cb3, 0x4ed8aa4a, 0x5b9cca4f, 0x682e6ff3,
		0x748f82ee, 0x78a5636f, 0x84c87814, 0x8cc70208, 0x90befffa, 0xa4506ceb, 0xbef9a3f7, 0xc67178f2,
	}
}
