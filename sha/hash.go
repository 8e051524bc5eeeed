package sha

import (
	"math/bits"
)

// hash is a sum in the making.
type hash struct {
	words [8]uint32
	round *[rounds]uint32
	size  uint64      // how many bytes were added
	rest  [block]byte // those of them that do not fill a block yet come first
}

func (h *hash) add(b []byte) {
	for len(b) > 0 {
		n := copy(h.rest[h.size%block:], b)
		h.size += uint64(n)
		b = b[n:]
		if h.size%block == 0 {
			h.mix()
		}
	}
}

// end adds what every message ends in, and returns the sum.
func (h *hash) end() [Size]byte {
	many := h.size * 8
	h.add([]byte{0x80})
	for h.size%block != block-8 {
		h.add([]byte{0})
	}
	for shift := 56; shift >= 0; shift -= 8 {
		h.add([]byte{byte(many >> shift)})
	}
	var sum [Size]byte
	for i, word := range h.words {
		for j := range 4 {
			sum[4*i+j] = byte(word >> (24 - 8*j))
		}
	}
	return sum
}

// mix goes through the block that rest has become.
func (h *hash) mix() {
	w := h.spread()
	a, b, c, d, e, f, g, last := h.words[0], h.words[1], h.words[2], h.words[3], h.words[4], h.words[5], h.words[6], h.words[7]
	for i := range w {
		one := last + rotations(e, 6, 11, 25) + ((e & f) ^ (^e & g)) + h.round[i] + w[i]
		two := rotations(a, 2, 13, 22) + ((a & b) ^ (a & c) ^ (b & c))
		last, g, f, e, d, c, b, a = g, f, e, d+one, c, b, a, one+two
	}
	for i, n := range [...]uint32{a, b, c, d, e, f, g, last} {
		h.words[i] += n
	}
}

// spread returns the words of the block, and those that are made of them.
func (h *hash) spread() [rounds]uint32 {
	var w [rounds]uint32
	for i, n := range h.rest {
		w[i/4] = w[i/4]<<8 | uint32(n)
	}
	for i := 16; i < len(w); i++ {
		s0 := right(w[i-15], 7) ^ right(w[i-15], 18) ^ w[i-15]>>3
		s1 := right(w[i-2], 17) ^ right(w[i-2], 19) ^ w[i-2]>>10
		w[i] = w[i-16] + s0 + w[i-7] + s1
	}
	return w
}

// rotations returns the XOR of a word rotated right by three numbers of bits.
func rotations(n uint32, x, y, z int) uint32 {
	return right(n, x) ^ right(n, y) ^ right(n, z)
}

func right(n uint32, many int) uint32 {
	return bits.RotateLeft32(n, -many)
}
