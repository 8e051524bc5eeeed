// Package vint is layer 1: variable-length integers of one, two, four or eight bytes, and a reader and a writer of sequences of them: see shared/doc/01-vint.md.
package vint

import (
	"math/bits"

	"binnacle/api"
)

// Len returns the length of the shortest encoding of a number; 0: it has none.
func Len(n uint64) int {
	switch {
	case n < 1<<6:
		return 1
	case n < 1<<14:
		return 2
	case n < 1<<30:
		return 4
	case n <= api.MaxInt:
		return 8
	}
	return 0
}

// Put returns b with the shortest encoding of a number appended.
func Put(b []byte, n uint64) ([]byte, api.Errno) {
	return Wide(b, n, Len(n))
}

// Wide returns b with the encoding of a number in size bytes appended.
func Wide(b []byte, n uint64, size int) ([]byte, api.Errno) {
	if !fits(n, size) {
		return nil, api.ErrRange
	}
	// A new slice, because the spare capacity of b is the caller's.
	all := make([]byte, len(b), len(b)+size)
	copy(all, b)
	return extend(all, n, size), api.OK
}

func fits(n uint64, size int) bool {
	switch size {
	case 1, 2, 4, 8:
		least := Len(n)
		return least != 0 && least <= size
	}
	return false
}

// extend appends in place, so b must be vint's own; n must fit in size bytes.
func extend(b []byte, n uint64, size int) []byte {
	length := uint64(bits.TrailingZeros(uint(size)))
	n |= length << (8*size - 2)
	for i := size - 1; i >= 0; i-- {
		b = append(b, byte(n>>(8*i)))
	}
	return b
}

// Take returns the number that is encoded at the beginning of b, and the length of its encoding.
func Take(b []byte) (n uint64, size int, e api.Errno) {
	if len(b) == 0 {
		return 0, 0, api.ErrShort
	}
	size = 1 << (b[0] >> 6)
	if len(b) < size {
		return 0, 0, api.ErrShort
	}
	n = uint64(b[0] & 0x3f)
	for _, c := range b[1:size] {
		n = n<<8 | uint64(c)
	}
	return n, size, api.OK
}
