package aes_test

import (
	"encoding/hex"
	"testing"

	"binnacle/aes"
)

// product multiplies two polynomials as they stand, and divides by x^8 + x^4 + x^3 + x + 1 afterwards.
func product(a, b byte) byte {
	whole := 0
	for i := range 8 {
		whole ^= int(a) << i * int(b>>i&1)
	}
	for i := 14; i >= 8; i-- {
		if whole>>i&1 == 1 {
			whole ^= 0x11b << (i - 8)
		}
	}
	return byte(whole)
}

// boxes are the values of FIPS 197, table 4.
const boxes = "637c777bf26b6fc53001672bfed7ab76ca82c97dfa5947f0add4a2af9ca472c0" +
	"b7fd9326363ff7cc34a5e5f171d8311504c723c31896059a071280e2eb27b275" +
	"09832c1a1b6e5aa0523bd6b329e32f8453d100ed20fcb15b6acbbe394a4c58cf" +
	"d0efaafb434d338545f9027f503c9fa851a3408f929d38f5bcb6da2110fff3d2" +
	"cd0c13ec5f974417c4a77e3d645d197360814fdc222a908846eeb814de5e0bdb" +
	"e0323a0a4906245cc2d3ac629195e479e7c8376d8dd54ea96c56f4ea657aae08" +
	"ba78252e1ca6b4c6e8dd741f4bbd8b8a703eb5664803f60e613557b986c11d9e" +
	"e1f8981169d98e949b1e87e9ce5528df8ca1890dbfe6426841992d0fb054bb16"

func expectTimes(t *testing.T, a, b, want byte) {
	t.Helper()
	if got := aes.Times(a, b); got != want {
		t.Errorf("Times(%#x, %#x) = %#x, want %#x", a, b, got, want)
	}
}

// P5.1: the known products of FIPS 197.
func TestKnownProducts(t *testing.T) {
	cases := []struct{ a, b, want byte }{
		{0x57, 0x83, 0xc1},
		{0x57, 0x13, 0xfe},
		{0x57, 0x01, 0x57},
		{0x57, 0x02, 0xae},
		{0x57, 0x04, 0x47},
		{0x57, 0x08, 0x8e},
		{0x57, 0x10, 0x07},
		{0x57, 0x20, 0x0e},
		{0x57, 0x40, 0x1c},
		{0x57, 0x80, 0x38},
		{0x80, 0x02, 0x1b},
		{0x53, 0xca, 0x01},
	}
	for _, c := range cases {
		expectTimes(t, c.a, c.b, c.want)
		expectTimes(t, c.b, c.a, c.want)
	}
}

// P5.1: all pairs of bytes.
func TestTimes(t *testing.T) {
	for a := range 256 {
		for b := range 256 {
			expectTimes(t, byte(a), byte(b), product(byte(a), byte(b)))
		}
	}
}

// P5.1: products with 0 and with 1, from either side.
func TestTimesNothingAndOne(t *testing.T) {
	for a := range 256 {
		expectTimes(t, byte(a), 0, 0)
		expectTimes(t, 0, byte(a), 0)
		expectTimes(t, byte(a), 1, byte(a))
		expectTimes(t, 1, byte(a), byte(a))
	}
}

// P5.1: products do not hang on the order, the product of a sum is the sum of the products, and each element but 0 has one inverse.
func TestTimesField(t *testing.T) {
	for a := range 256 {
		inverses := 0
		for b := range 256 {
			p := aes.Times(byte(a), byte(b))
			if p != aes.Times(byte(b), byte(a)) {
				t.Errorf("Times(%#x, %#x) is another one the other way round", a, b)
			}
			if p == 1 {
				inverses++
			}
			c := byte(a*31 + b*7 + 5)
			if p^aes.Times(byte(a), c) != aes.Times(byte(a), byte(b)^c) {
				t.Errorf("%#x times %#x XOR %#x is not the XOR of the products", a, b, c)
			}
			if aes.Times(p, c) != aes.Times(byte(a), aes.Times(byte(b), c)) {
				t.Errorf("%#x times %#x times %#x hangs on the order", a, b, c)
			}
		}
		if want := min(a, 1); inverses != want {
			t.Errorf("%#x has %d inverses, want %d", a, inverses, want)
		}
	}
}

// P5.1: the known values of every byte.
func TestKnownBoxes(t *testing.T) {
	want, e := hex.DecodeString(boxes)
	if e != nil || len(want) != 256 {
		t.Fatalf("%d values, error %v", len(want), e)
	}
	x := aes.New()
	for a := range 256 {
		if got := x.Box(byte(a)); got != want[a] {
			t.Errorf("Box(%#x) = %#x, want %#x", a, got, want[a])
		}
	}
	for a := 255; a >= 0; a-- {
		if got := aes.New().Box(byte(a)); got != want[a] {
			t.Errorf("Box(%#x) of new tables = %#x, want %#x", a, got, want[a])
		}
	}
}

// P5.1: every byte's value as the chapter says it, with the inverse looked for by products; that of 0 is taken as 0.
func TestBox(t *testing.T) {
	x := aes.New()
	if got := x.Box(0); got != 0x63 {
		t.Errorf("Box(0) = %#x, want 0x63", got)
	}
	for a := 1; a < 256; a++ {
		i := 1
		for product(byte(a), byte(i)) != 1 {
			i++
		}
		want := byte(0x63)
		for by := range 5 {
			want ^= byte(i<<by | i>>(8-by))
		}
		if got := x.Box(byte(a)); got != want {
			t.Errorf("Box(%#x) = %#x, want %#x", a, got, want)
		}
	}
}

// P5.1: no two bytes have the same value, and none its own.
func TestBoxDiffers(t *testing.T) {
	x := aes.New()
	var seen [256]bool
	for a := range 256 {
		b := x.Box(byte(a))
		if seen[b] || b == byte(a) {
			t.Errorf("Box(%#x) = %#x, which is its own or another's", a, b)
		}
		seen[b] = true
	}
}
