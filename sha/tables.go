package sha

import (
	"math/bits"
)

func (t *Tables) compute() {
	all := primes(len(t.round))
	for i := range t.start {
		t.start[i] = fraction(all[i], 2)
	}
	for i := range t.round {
		t.round[i] = fraction(all[i], 3)
	}
}

// primes returns the first primes, as many as are asked for.
func primes(many int) []uint64 {
	var found []uint64
candidates:
	for n := uint64(2); len(found) < many; n++ {
		for _, p := range found {
			if n%p == 0 {
				continue candidates
			}
		}
		found = append(found, n)
	}
	return found
}

// fraction returns the first 32 bits of the fractional part of a prime's root; degree is 2 or 3, and the prime below 2^12. It reckons with integers, because floats need not be rounded alike on every machine.
func fraction(prime uint64, degree int) uint32 {
	// The root times 2^32 is the greatest number whose power is at most bound times 2^64. It cannot be equal, as no root of a prime is rational, so the upper halves tell.
	bound := prime << (32*degree - 64)
	var root uint64
	for bit := uint64(1) << 37; bit > 0; bit >>= 1 {
		if upper(root|bit, degree) < bound {
			root |= bit
		}
	}
	return uint32(root)
}

// upper returns n to the power of degree, divided by 2^64.
func upper(n uint64, degree int) uint64 {
	high, low := uint64(0), uint64(1)
	for range degree {
		carry, rest := bits.Mul64(low, n)
		high, low = high*n+carry, rest
	}
	return high
}
