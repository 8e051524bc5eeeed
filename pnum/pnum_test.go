package pnum_test

import (
	"bytes"
	"math"
	"testing"

	"binnacle/api"
	"binnacle/pnum"
)

func expectSize(t *testing.T, full uint64, acked int64, want int) {
	t.Helper()
	if got := pnum.Size(full, acked); got != want {
		t.Errorf("Size(%d, %d) = %d, want %d", full, acked, got, want)
	}
}

// distances are the differences on both sides of each size's bound, 2^(8*size - 1).
var distances = []struct {
	away uint64
	size int
}{
	{0, 1}, {1, 1}, {1<<7 - 2, 1}, {1<<7 - 1, 1},
	{1 << 7, 2}, {1<<7 + 1, 2}, {1<<8 - 1, 2}, {1 << 8, 2}, {1<<15 - 1, 2},
	{1 << 15, 3}, {1<<15 + 1, 3}, {1<<16 - 1, 3}, {1 << 16, 3}, {1<<23 - 1, 3},
	{1 << 23, 4}, {1<<23 + 1, 4}, {1 << 24, 4}, {1<<31 - 1, 4},
	{1 << 31, 4}, {1 << 32, 4}, {1 << 39, 4}, {api.MaxInt, 4}, {1 << 62, 4},
}

// P2.1: the size depends on how far full is above the greatest acknowledged number.
func TestSize(t *testing.T) {
	for _, c := range distances {
		for _, acked := range []int64{0, 1, 127, 128, 1 << 20, 1 << 40, api.MaxInt, math.MaxInt64} {
			expectSize(t, uint64(acked)+c.away, acked, c.size)
		}
	}
	// The example of RFC 9000.
	expectSize(t, 0xac5c02, 0xabe8b3, 2)
	expectSize(t, 0xace8fe, 0xabe8b3, 3)
	// full may lie above the greatest int64.
	expectSize(t, math.MaxUint64, math.MaxInt64, 4)
	expectSize(t, 1<<63, math.MaxInt64, 1)
	expectSize(t, 1<<63+127, math.MaxInt64, 2)
	expectSize(t, math.MaxUint64, 0, 4)
}

// P2.1: without an acknowledgement it is full + 1 that counts, whatever the negative number is; it wraps around.
func TestSizeNoneAcked(t *testing.T) {
	for _, acked := range []int64{-1, -2, -128, -1 << 40, math.MinInt64} {
		for _, c := range distances {
			if c.away > 0 {
				expectSize(t, c.away-1, acked, c.size)
			}
		}
		expectSize(t, math.MaxUint64-1, acked, 4)
		expectSize(t, math.MaxUint64, acked, 1)
	}
}

// P2.1: a number that is not above the acknowledged one is no distance away.
func TestSizeBelowAcked(t *testing.T) {
	for _, acked := range []int64{1, 127, 128, 1 << 15, 1 << 31, 1 << 40, api.MaxInt, math.MaxInt64} {
		for _, full := range []uint64{0, uint64(acked) / 2, uint64(acked) - 1, uint64(acked)} {
			expectSize(t, full, acked, 1)
		}
	}
}

// P2.1: the low bytes, the highest first; the size is limited to 1 to 4.
func TestCut(t *testing.T) {
	cases := []struct {
		full uint64
		size int
		want string
	}{
		{0x1234, 1, "\x34"},
		{0x0102030405060708, 1, "\x08"},
		{0x0102030405060708, 2, "\x07\x08"},
		{0x0102030405060708, 3, "\x06\x07\x08"},
		{0x0102030405060708, 4, "\x05\x06\x07\x08"},
		{0x0102030405060708, 0, "\x08"},
		{0x0102030405060708, -1, "\x08"},
		{0x0102030405060708, -4, "\x08"},
		{0x0102030405060708, math.MinInt, "\x08"},
		{0x0102030405060708, 5, "\x05\x06\x07\x08"},
		{0x0102030405060708, 8, "\x05\x06\x07\x08"},
		{0x0102030405060708, 256, "\x05\x06\x07\x08"},
		{0x0102030405060708, math.MaxInt, "\x05\x06\x07\x08"},
		{0, 1, "\x00"},
		{0, 4, "\x00\x00\x00\x00"},
		{0x80, 2, "\x00\x80"},
		{0xff00, 1, "\x00"},
		{math.MaxUint64, 3, "\xff\xff\xff"},
		{math.MaxUint64, 4, "\xff\xff\xff\xff"},
	}
	for _, c := range cases {
		if got := pnum.Cut(c.full, c.size); string(got) != c.want {
			t.Errorf("Cut(%#x, %d) = % x, want % x", c.full, c.size, got, c.want)
		}
	}
}

// P2 (R6): what Cut returns is new each time.
func TestCutNew(t *testing.T) {
	first := pnum.Cut(0x01020304, 4)
	second := pnum.Cut(0x01020304, 4)
	clear(first[:cap(first)])
	if string(second) != "\x01\x02\x03\x04" || string(pnum.Cut(0x01020304, 4)) != "\x01\x02\x03\x04" {
		t.Errorf("two results share memory: % x", second)
	}
}

func expectWhole(t *testing.T, b string, greatest int64, want uint64) {
	t.Helper()
	got, e := pnum.Whole([]byte(b), greatest)
	if got != want || e != api.OK {
		t.Errorf("Whole(% x, %#x) = %#x, %d, want %#x", b, greatest, got, e, want)
	}
}

// P2.2: the examples, and one of each size and outcome.
func TestWhole(t *testing.T) {
	expectWhole(t, "\x9b\x32", 0xa82f30ea, 0xa82f9b32)
	expectWhole(t, "\x34", 0x1230, 0x1234)
	expectWhole(t, "\x02", 0x12f0, 0x1302)
	expectWhole(t, "\xfe", 0x1204, 0x11fe)
	expectWhole(t, "\x01\x02", 0xabfff0, 0xac0102)
	expectWhole(t, "\xff\xf0", 0xac0102, 0xabfff0)
	expectWhole(t, "\x12\x34\x56", 0x7712ffff, 0x77123456)
	expectWhole(t, "\x00\x00\x01", 0x77ffffff, 0x78000001)
	expectWhole(t, "\xff\xff\xff", 0x78000001, 0x77ffffff)
	expectWhole(t, "\x12\x34\x56\x78", 0x9912345600, 0x9912345678)
	expectWhole(t, "\x00\x00\x00\x01", 0x99ffffffff, 0x9a00000001)
	expectWhole(t, "\xff\xff\xff\xff", 0x9a00000001, 0x99ffffffff)
}

// bytesOf are the low bytes of n, apart from what the package does.
func bytesOf(n uint64, size int) string {
	all := []byte{byte(n >> 24), byte(n >> 16), byte(n >> 8), byte(n)}
	return string(all[4-size:])
}

// P2.2: near + half at most expected, and one above it; near above expected + half, and not above it.
func TestWholeHalves(t *testing.T) {
	for size := 1; size <= 4; size++ {
		window := uint64(1) << (8 * size)
		half := window / 2
		for _, base := range []uint64{window, 5 * window, 1<<40 - window, 1 << 61} {
			// expected is the first number of a window or in it, greatest the one below.
			for _, in := range []uint64{0, 1, half - 1, half, half + 1, window - 1} {
				expected := base + in
				greatest := int64(expected) - 1
				for _, up := range []uint64{0, 1, half - 1, half} {
					expectWhole(t, bytesOf(expected+up, size), greatest, expected+up)
				}
				for _, down := range []uint64{1, 2, half - 2, half - 1} {
					expectWhole(t, bytesOf(expected-down, size), greatest, expected-down)
				}
				// As far below as above: the one above is taken.
				expectWhole(t, bytesOf(expected-half, size), greatest, expected+half)
				expectWhole(t, bytesOf(expected+half+1, size), greatest, expected-half+1)
			}
		}
	}
}

// P2.2: without a number received, and close to 0: nothing is taken off below a window.
func TestWholeFirst(t *testing.T) {
	for size := 1; size <= 4; size++ {
		window := uint64(1) << (8 * size)
		half := window / 2
		for _, greatest := range []int64{-1, -2, -256, -1 << 40, math.MinInt64} {
			for _, n := range []uint64{0, 1, half - 1, half, half + 1, window - 1} {
				expectWhole(t, bytesOf(n, size), greatest, n)
			}
		}
		// greatest 0: 1 is expected.
		for _, n := range []uint64{0, 1, half, half + 1, half + 2, window - 1} {
			expectWhole(t, bytesOf(n, size), 0, n)
		}
		// From expected = half on, low bytes may be those of the next window.
		for _, in := range []uint64{half - 1, half, half + 1, window - 1} {
			expectWhole(t, bytesOf(window-1, size), int64(in)-1, window-1)
		}
		expectWhole(t, bytesOf(0, size), int64(half)-2, 0)
		expectWhole(t, bytesOf(0, size), int64(half)-1, window)
		// The least number from which a window is taken off.
		expectWhole(t, bytesOf(half, size), int64(window)-1, window+half)
		expectWhole(t, bytesOf(half+1, size), int64(window)-1, half+1)
	}
}

// P2.2: close to 2^62: nothing is put on from 2^62 - window on.
func TestWholeLast(t *testing.T) {
	const end = uint64(1) << 62
	for size := 1; size <= 4; size++ {
		window := uint64(1) << (8 * size)
		half := window / 2
		// The last window: all low bytes from 0 to half - 1 would be nearer above.
		for _, in := range []uint64{0, 1, half - 2, half - 1, half, window - 1} {
			expectWhole(t, bytesOf(in, size), api.MaxInt-1, end-window+in)
		}
		// The window before it is left upwards.
		for _, in := range []uint64{0, 1, half - 1} {
			expectWhole(t, bytesOf(in, size), int64(end-window)-2, end-window+in)
		}
		expectWhole(t, bytesOf(half, size), int64(end-window)-2, end-window-half)
		// And the last one downwards.
		expectWhole(t, bytesOf(half, size), int64(end-window)-1, end-half)
		expectWhole(t, bytesOf(half+1, size), int64(end-window)-1, end-window-half+1)
	}
}

// P2.2: greatest + 1 above MaxInt, and just not above it.
func TestWholeRange(t *testing.T) {
	for _, greatest := range []int64{api.MaxInt, api.MaxInt + 1, math.MaxInt64 - 1, math.MaxInt64} {
		for _, b := range []string{"\x00", "\x00\x00", "\xff\xff\xff", "\xff\xff\xff\xff"} {
			if n, e := pnum.Whole([]byte(b), greatest); n != 0 || e != api.ErrRange {
				t.Errorf("Whole(% x, %#x) = %#x, %d", b, greatest, n, e)
			}
		}
	}
	expectWhole(t, "\xff", api.MaxInt-1, api.MaxInt)
	expectWhole(t, "\xfe", api.MaxInt-2, api.MaxInt-1)
}

// P2.2: b must have 1 to 4 bytes; that is asked first (R2).
func TestWholeSize(t *testing.T) {
	for _, size := range []int{0, 5, 6, 8, 9, 64, 256, 257} {
		for _, greatest := range []int64{math.MinInt64, -1, 0, 1000, api.MaxInt - 1, api.MaxInt, math.MaxInt64} {
			if n, e := pnum.Whole(bytes.Repeat([]byte{1}, size), greatest); n != 0 || e != api.ErrSize {
				t.Errorf("Whole of %d bytes, %#x = %#x, %d", size, greatest, n, e)
			}
		}
	}
	if n, e := pnum.Whole(nil, 5); n != 0 || e != api.ErrSize {
		t.Errorf("Whole(nil) = %#x, %d", n, e)
	}
}

// P2.2: one byte, close to 0 and to 2^62, against a search among all numbers that end in it.
func TestWholeSearch(t *testing.T) {
	for from, base := range map[string]uint64{"0": 0, "2^62": 1<<62 - 600} {
		for expected := base; expected < base+600; expected++ {
			for low := range 256 {
				want := search(expected, byte(low))
				got, e := pnum.Whole([]byte{byte(low)}, int64(expected)-1)
				if got != want || e != api.OK {
					t.Fatalf("at %s: Whole(%02x, %#x) = %#x, %d, want %#x", from, low, expected-1, got, e, want)
				}
			}
		}
	}
}

// search looks for the number that ends in low and is from expected - 127 to expected + 128, or, where that one isn't from 0 to MaxInt, for the one in expected's own window.
func search(expected uint64, low byte) uint64 {
	for n := int64(expected) - 127; n <= int64(expected)+128; n++ {
		if byte(n) == low && n >= 0 && n <= api.MaxInt {
			return uint64(n)
		}
	}
	return expected/256*256 + uint64(low)
}

// P2.1, P2.2: what was cut to its size is restored, if what the receiver has lies from the acknowledged number to full.
func TestRoundTrip(t *testing.T) {
	for _, acked := range []int64{-1, 0, 1, 126, 127, 128, 255, 256, 1<<16 - 1, 1 << 24, 1<<40 + 77, api.MaxInt - 1<<31} {
		for _, c := range distances {
			if c.away == 0 || c.away >= 1<<31 {
				continue
			}
			full := uint64(acked) + c.away
			b := pnum.Cut(full, pnum.Size(full, acked))
			if len(b) != c.size {
				t.Errorf("Cut(%#x) for %#x has %d bytes, want %d", full, acked, len(b), c.size)
			}
			for _, greatest := range []int64{acked, acked + 1, acked + int64(c.away)/2, int64(full) - 1, int64(full)} {
				if greatest <= int64(full) && greatest < api.MaxInt {
					expectWhole(t, string(b), greatest, full)
				}
			}
		}
	}
}

// P2 (R6): Whole leaves b and its spare capacity as they are.
func TestWholeKeepsArgument(t *testing.T) {
	whole := []byte("\x9b\x32\xee\xee\xee")
	for size := range len(whole) + 1 {
		pnum.Whole(whole[:size], 0xa82f30ea)
	}
	if string(whole) != "\x9b\x32\xee\xee\xee" {
		t.Errorf("the argument was changed: % x", whole)
	}
}
