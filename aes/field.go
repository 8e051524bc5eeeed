package aes

import (
	"math/bits"
)

// modulus is x^8 + x^4 + x^3 + x + 1 without x^8, which a shift drops by itself.
const modulus = 0x1b

// Times returns the product of two elements of the field.
func Times(a, b byte) byte {
	var product byte
	for i := range 8 {
		if b>>i&1 == 1 {
			product ^= a
		}
		a = double(a)
	}
	return product
}

// double returns 2 times an element.
func double(a byte) byte {
	return a<<1 ^ a>>7*modulus
}

// inverse returns the inverse of an element, 0 for 0. The 255th power of each other element is 1, so its inverse is the 254th: the product of the 2nd, 4th, up to the 128th.
func inverse(a byte) byte {
	product := byte(1)
	for range 7 {
		a = Times(a, a)
		product = Times(product, a)
	}
	return product
}

// compute fills the box.
func (t *Tables) compute() {
	for a := range t.box {
		i := inverse(byte(a))
		value := i ^ 0x63
		for by := range 4 {
			value ^= bits.RotateLeft8(i, by+1)
		}
		t.box[a] = value
	}
}
