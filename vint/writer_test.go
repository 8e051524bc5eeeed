package vint_test

import (
	"bytes"
	"math"
	"testing"

	"binnacle/api"
	"binnacle/vint"
)

func expectDone(t *testing.T, w *vint.Writer, want string) {
	t.Helper()
	if b, e := w.Done(); string(b) != want || e != api.OK {
		t.Errorf("Done() = % x, %d, want % x", b, e, want)
	}
}

func expectFailed(t *testing.T, w *vint.Writer, want api.Errno) {
	t.Helper()
	if b, e := w.Done(); len(b) != 0 || e != want {
		t.Errorf("Done() = % x, %d, want error %d", b, e, want)
	}
}

// P1.3: the zero Writer is empty, and stays so if nothing is appended.
func TestWriterEmpty(t *testing.T) {
	var w vint.Writer
	expectDone(t, &w, "")
	w.Int()
	w.Bytes()
	expectDone(t, &w, "")
}

// P1.3: numbers, as many as one likes, in their shortest encoding.
func TestWriterInt(t *testing.T) {
	var w vint.Writer
	w.Int(37)
	w.Int(63, 64, 300)
	w.Int()
	w.Int([]uint64{15293, 16383, 16384}...)
	expectDone(t, &w, "\x25\x3f\x40\x40\x41\x2c\x7b\xbd\x7f\xff\x80\x00\x40\x00")

	w = vint.Writer{}
	var want []byte
	for _, c := range encodings {
		if c.size == vint.Len(c.n) {
			w.Int(c.n)
			want = append(want, c.b...)
		}
	}
	expectDone(t, &w, string(want))
}

// P1.3: bytes, and bytes behind their length.
func TestWriterBytes(t *testing.T) {
	var w vint.Writer
	w.Bytes(1)
	w.Bytes(2, 3)
	w.Bytes([]byte("\xff\x00")...)
	w.Long([]byte("abc"))
	w.Long(nil)
	w.Long([]byte{})
	expectDone(t, &w, "\x01\x02\x03\xff\x00\x03abc\x00\x00")

	for _, size := range []int{63, 64, 16383, 16384} {
		var w vint.Writer
		w.Long(make([]byte, size))
		want, _ := vint.Put(nil, uint64(size))
		expectDone(t, &w, string(want)+string(make([]byte, size)))
	}
}

// P1.3: a number without an encoding stops the writer, wherever it stands.
func TestWriterRange(t *testing.T) {
	for _, n := range []uint64{api.MaxInt + 1, 1 << 63, math.MaxUint64} {
		for _, l := range [][]uint64{{n}, {n, 1}, {1, n}, {1, n, 2}} {
			var w vint.Writer
			w.Int(1)
			expectDone(t, &w, "\x01")
			w.Int(l...)
			expectFailed(t, &w, api.ErrRange)
			expectFailed(t, &w, api.ErrRange)
			w.Int(1)
			w.Bytes(2)
			w.Long([]byte("abc"))
			expectFailed(t, &w, api.ErrRange)
		}
	}
}

// P1.3: Done ends nothing.
func TestWriterGoesOn(t *testing.T) {
	var w vint.Writer
	w.Int(1)
	expectDone(t, &w, "\x01")
	expectDone(t, &w, "\x01")
	w.Bytes(2)
	expectDone(t, &w, "\x01\x02")
	w.Int(3)
	w.Long([]byte{4})
	expectDone(t, &w, "\x01\x02\x03\x01\x04")
}

// P1.3, P2 (R7): a nil writer.
func TestWriterNil(t *testing.T) {
	var w *vint.Writer
	w.Int(1, math.MaxUint64)
	w.Bytes(1)
	w.Long([]byte("abc"))
	expectFailed(t, w, api.ErrNil)
}

// P2 (R6): a writer doesn't share memory with what it was given, nor with what it gave.
func TestWriterKeepsNothing(t *testing.T) {
	whole := bytes.Repeat([]byte{0xee}, 32)
	long := []byte("abc")
	var w vint.Writer
	w.Bytes(whole[:2]...)
	w.Long(long)
	w.Int(5)
	if !bytes.Equal(whole, bytes.Repeat([]byte{0xee}, 32)) || string(long) != "abc" {
		t.Errorf("the arguments were changed: % x, %q", whole, long)
	}
	clear(whole)
	clear(long)
	want := "\xee\xee\x03abc\x05"
	b, _ := w.Done()
	if string(b) != want {
		t.Fatalf("the writer shares its arguments: % x", b)
	}
	clear(b[:cap(b)])
	expectDone(t, &w, want)
	first, _ := w.Done()
	w.Bytes(6)
	_ = append(first, 7)
	expectDone(t, &w, want+"\x06")

	numbers := []uint64{1, 2, math.MaxUint64, 3}
	w.Int(numbers...)
	if numbers[0] != 1 || numbers[1] != 2 || numbers[2] != math.MaxUint64 || numbers[3] != 3 {
		t.Errorf("the argument was changed: %d", numbers)
	}
}

// P1.2, P1.3: what a writer wrote, a reader reads.
func TestWriterThenReader(t *testing.T) {
	var w vint.Writer
	w.Int(300, api.MaxInt)
	w.Bytes(7)
	w.Long([]byte("abc"))
	b, e := w.Done()
	if e != api.OK {
		t.Fatal(e)
	}
	r := vint.Read(b)
	if r.Least() != 300 || r.Least() != api.MaxInt || r.Byte() != 7 || string(r.Long(3)) != "abc" || r.End() != api.OK {
		t.Errorf("% x: %d", b, r.Err())
	}
}
