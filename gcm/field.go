package gcm

import (
	"binnacle/aes"
)

// modulus is x^7 + x^2 + x + 1, which x^128 equals in the field, as the highest bits of an element.
const modulus = 0xe1 << 56

// element is an element of the field of 2^128 elements. From the highest bit on, high has the coefficients of x^0 to x^63, and low those of x^64 to x^127: the bytes of a block, eight by eight, big-endian.
type element struct {
	high, low uint64
}

// elementOf returns the element that a block is.
func elementOf(b aes.Block) element {
	var e element
	for i := range 8 {
		e.high = e.high<<8 | uint64(b[i])
		e.low = e.low<<8 | uint64(b[8+i])
	}
	return e
}

// block returns the block that an element is.
func (e element) block() aes.Block {
	var b aes.Block
	for i := range 8 {
		b[i] = byte(e.high >> (56 - 8*i))
		b[8+i] = byte(e.low >> (56 - 8*i))
	}
	return b
}

// plus returns the sum of two elements.
func (e element) plus(f element) element {
	return element{e.high ^ f.high, e.low ^ f.low}
}

// times returns the product of two elements. It takes the same steps for all of them, so that its time tells nothing of the key.
func (e element) times(f element) element {
	var product element
	for _, word := range [2]uint64{e.high, e.low} {
		for range 64 {
			product = product.plus(f.where(word))
			word <<= 1
			f = f.up()
		}
	}
	return product
}

// where returns the element if the highest bit of word is set, and 0 otherwise.
func (e element) where(word uint64) element {
	all := -(word >> 63)
	return element{e.high & all, e.low & all}
}

// up returns x times an element: each coefficient moves to the next power, and that of x^128 becomes modulus.
func (e element) up() element {
	over := e.low & 1
	return element{e.high>>1 ^ over*modulus, e.low>>1 | e.high<<63}
}

// same tells whether two elements are the same. It looks at all of their bits, so that its time does not tell how much of a wrong tag is right.
func (e element) same(f element) bool {
	d := e.plus(f)
	return d.high|d.low == 0
}
