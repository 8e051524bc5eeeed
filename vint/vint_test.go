package vint_test

import (
	"bytes"
	"math"
	"testing"

	"binnacle/api"
	"binnacle/vint"
)

// bounds are the numbers on both sides of each length's bound, and the lengths of their shortest encodings.
var bounds = []struct {
	n    uint64
	size int
}{
	{0, 1}, {1, 1}, {37, 1}, {1<<6 - 1, 1},
	{1 << 6, 2}, {300, 2}, {15293, 2}, {1<<14 - 1, 2},
	{1 << 14, 4}, {494878333, 4}, {1<<30 - 1, 4},
	{1 << 30, 8}, {1 << 32, 8}, {151288809941952652, 8}, {api.MaxInt, 8},
	{api.MaxInt + 1, 0}, {1 << 63, 0}, {math.MaxUint64, 0},
}

// encodings are written out by hand: the examples of the chapter and of RFC 9000, and each length's greatest and least numbers.
var encodings = []struct {
	n    uint64
	size int
	b    string
}{
	{0, 1, "\x00"},
	{37, 1, "\x25"},
	{63, 1, "\x3f"},
	{0, 2, "\x40\x00"},
	{37, 2, "\x40\x25"},
	{64, 2, "\x40\x40"},
	{300, 2, "\x41\x2c"},
	{15293, 2, "\x7b\xbd"},
	{16383, 2, "\x7f\xff"},
	{0, 4, "\x80\x00\x00\x00"},
	{300, 4, "\x80\x00\x01\x2c"},
	{16384, 4, "\x80\x00\x40\x00"},
	{494878333, 4, "\x9d\x7f\x3e\x7d"},
	{1<<30 - 1, 4, "\xbf\xff\xff\xff"},
	{0, 8, "\xc0\x00\x00\x00\x00\x00\x00\x00"},
	{300, 8, "\xc0\x00\x00\x00\x00\x00\x01\x2c"},
	{1 << 30, 8, "\xc0\x00\x00\x00\x40\x00\x00\x00"},
	{151288809941952652, 8, "\xc2\x19\x7c\x5e\xff\x14\xe8\x8c"},
	{api.MaxInt, 8, "\xff\xff\xff\xff\xff\xff\xff\xff"},
}

// P1.1: Len.
func TestLen(t *testing.T) {
	for _, c := range bounds {
		if got := vint.Len(c.n); got != c.size {
			t.Errorf("Len(%d) = %d, want %d", c.n, got, c.size)
		}
	}
}

// P1.1: Wide appends the encoding in the size that is asked for.
func TestWide(t *testing.T) {
	for _, c := range encodings {
		for _, front := range []string{"", "ab"} {
			got, e := vint.Wide([]byte(front), c.n, c.size)
			if string(got) != front+c.b || e != api.OK {
				t.Errorf("Wide(%q, %d, %d) = % x, %d", front, c.n, c.size, got, e)
			}
		}
	}
}

// P1.1: Wide's errors: a size that is none, a size that is too small, a number without an encoding.
func TestWideRange(t *testing.T) {
	for _, c := range bounds {
		for _, size := range []int{math.MinInt, -8, -1, 0, 1, 2, 3, 4, 5, 6, 7, 8, 9, 16, 32, 64, 1 << 32, math.MaxInt} {
			length := size == 1 || size == 2 || size == 4 || size == 8
			want := api.ErrRange
			if length && c.size != 0 && size >= c.size {
				want = api.OK
			}
			got, e := vint.Wide([]byte("ab"), c.n, size)
			if e != want {
				t.Errorf("Wide(%d, %d): error %d, want %d", c.n, size, e, want)
			}
			if e != api.OK && got != nil {
				t.Errorf("Wide(%d, %d): % x beside an error", c.n, size, got)
			}
			if e == api.OK && len(got) != 2+size {
				t.Errorf("Wide(%d, %d): %d bytes", c.n, size, len(got))
			}
		}
	}
}

// P1.1: Put takes the shortest encoding.
func TestPut(t *testing.T) {
	for _, c := range encodings {
		if c.size != vint.Len(c.n) {
			continue
		}
		for _, front := range []string{"", "ab"} {
			got, e := vint.Put([]byte(front), c.n)
			if string(got) != front+c.b || e != api.OK {
				t.Errorf("Put(%q, %d) = % x, %d", front, c.n, got, e)
			}
		}
	}
	for _, n := range []uint64{api.MaxInt + 1, 1 << 63, math.MaxUint64} {
		if got, e := vint.Put([]byte("ab"), n); got != nil || e != api.ErrRange {
			t.Errorf("Put(%d) = % x, %d", n, got, e)
		}
	}
}

// P1.1: Take reads any encoding, looks at nothing behind it, and needs all of it.
func TestTake(t *testing.T) {
	for _, c := range encodings {
		for _, behind := range []string{"", "\xff\x00"} {
			n, size, e := vint.Take([]byte(c.b + behind))
			if n != c.n || size != c.size || e != api.OK {
				t.Errorf("Take(% x) = %d, %d, %d", c.b+behind, n, size, e)
			}
		}
		for i := range len(c.b) {
			n, size, e := vint.Take([]byte(c.b[:i]))
			if n != 0 || size != 0 || e != api.ErrShort {
				t.Errorf("Take(% x) = %d, %d, %d", c.b[:i], n, size, e)
			}
		}
	}
	if n, size, e := vint.Take(nil); n != 0 || size != 0 || e != api.ErrShort {
		t.Errorf("Take(nil) = %d, %d, %d", n, size, e)
	}
}

// P1.1: what was put is taken, around all powers of two.
func TestRoundTrip(t *testing.T) {
	for shift := range 64 {
		for _, n := range []uint64{1<<shift - 1, 1 << shift, 1<<shift + 1} {
			b, e := vint.Put(nil, n)
			if n > api.MaxInt {
				if e != api.ErrRange {
					t.Errorf("Put(%d): error %d", n, e)
				}
				continue
			}
			m, size, f := vint.Take(b)
			if e != api.OK || f != api.OK || m != n || size != len(b) || size != vint.Len(n) {
				t.Errorf("Take(Put(%d)) = %d, %d, %d", n, m, size, f)
			}
		}
	}
}

// P2 (R6): b and its spare capacity stay as they are, and the result is new memory.
func TestPutKeepsArgument(t *testing.T) {
	puts := map[string]func([]byte) ([]byte, api.Errno){
		"Put":  func(b []byte) ([]byte, api.Errno) { return vint.Put(b, 300) },
		"Wide": func(b []byte) ([]byte, api.Errno) { return vint.Wide(b, 300, 8) },
	}
	for name, put := range puts {
		whole := bytes.Repeat([]byte{0xee}, 32)
		got, e := put(whole[:2])
		if e != api.OK {
			t.Fatalf("%s: error %d", name, e)
		}
		if !bytes.Equal(whole, bytes.Repeat([]byte{0xee}, 32)) {
			t.Errorf("%s wrote into its argument: % x", name, whole)
		}
		got[0] = 0
		if whole[0] != 0xee {
			t.Errorf("%s shares memory with its argument", name)
		}
	}
}
