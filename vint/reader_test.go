package vint_test

import (
	"bytes"
	"math"
	"testing"

	"binnacle/api"
	"binnacle/vint"
)

// expectStopped holds a reader against P1.2: the error stays, no bytes are left, and all items are zero values.
func expectStopped(t *testing.T, what string, r *vint.Reader, want api.Errno) {
	t.Helper()
	check := func(after string) {
		t.Helper()
		if e := r.Err(); e != want {
			t.Errorf("%s, %s: Err() = %d, want %d", what, after, e, want)
		}
		if r.Left() != 0 {
			t.Errorf("%s, %s: %d bytes left", what, after, r.Left())
		}
	}
	check("at once")
	if n := r.Int(); n != 0 {
		t.Errorf("%s: Int() = %d", what, n)
	}
	check("Int")
	if n := r.Least(); n != 0 {
		t.Errorf("%s: Least() = %d", what, n)
	}
	check("Least")
	for _, most := range []int{math.MinInt, -1, 0, 5, math.MaxInt} {
		if n := r.Count(most); n != 0 {
			t.Errorf("%s: Count(%d) = %d", what, most, n)
		}
		if b := r.Bytes(most); len(b) != 0 {
			t.Errorf("%s: Bytes(%d) = % x", what, most, b)
		}
		if b := r.Long(most); len(b) != 0 {
			t.Errorf("%s: Long(%d) = % x", what, most, b)
		}
		check("Count, Bytes, Long")
	}
	if b := r.Byte(); b != 0 {
		t.Errorf("%s: Byte() = %d", what, b)
	}
	check("Byte")
	r.Fail(api.OK)
	r.Fail(api.ErrIdle)
	check("Fail")
	if e := r.End(); e != want {
		t.Errorf("%s: End() = %d, want %d", what, e, want)
	}
	check("End")
}

// P1.2: items of all kinds, one after another.
func TestReader(t *testing.T) {
	r := vint.Read([]byte("\x41\x2c\x40\x25\x07\x02\x05abc\x03xyz\xee"))
	if n := r.Least(); n != 300 || r.Left() != 13 {
		t.Errorf("Least() = %d, left %d", n, r.Left())
	}
	if n := r.Int(); n != 37 || r.Left() != 11 {
		t.Errorf("Int() = %d, left %d", n, r.Left())
	}
	if n := r.Count(7); n != 7 || r.Left() != 10 {
		t.Errorf("Count(7) = %d, left %d", n, r.Left())
	}
	if b := r.Byte(); b != 2 || r.Left() != 9 {
		t.Errorf("Byte() = %d, left %d", b, r.Left())
	}
	if b := r.Byte(); b != 5 || r.Left() != 8 {
		t.Errorf("Byte() = %d, left %d", b, r.Left())
	}
	if b := r.Bytes(3); string(b) != "abc" || r.Left() != 5 {
		t.Errorf("Bytes(3) = %q, left %d", b, r.Left())
	}
	if b := r.Long(3); string(b) != "xyz" || r.Left() != 1 {
		t.Errorf("Long(3) = %q, left %d", b, r.Left())
	}
	if b := r.Bytes(1); string(b) != "\xee" || r.Left() != 0 {
		t.Errorf("Bytes(1) = %q, left %d", b, r.Left())
	}
	if r.Err() != api.OK || r.End() != api.OK {
		t.Errorf("Err() = %d, End() = %d", r.Err(), r.End())
	}
}

// P1.2: bytes that are too short stop the reader with ErrShort, whatever is asked for.
func TestReaderShort(t *testing.T) {
	asks := map[string]func(*vint.Reader){
		"Int":   func(r *vint.Reader) { r.Int() },
		"Least": func(r *vint.Reader) { r.Least() },
		"Count": func(r *vint.Reader) { r.Count(math.MaxInt) },
		"Long":  func(r *vint.Reader) { r.Long(math.MaxInt) },
	}
	for name, ask := range asks {
		for _, b := range []string{"", "\x41", "\x80\x01\x01", "\xc0\x01\x01\x01\x01\x01\x01"} {
			r := vint.Read([]byte(b))
			ask(r)
			expectStopped(t, name, r, api.ErrShort)
		}
	}
	r := vint.Read(nil)
	r.Byte()
	expectStopped(t, "Byte of none", r, api.ErrShort)
	for _, many := range []int{math.MinInt, -1, 4, math.MaxInt} {
		r := vint.Read([]byte("abc"))
		if b := r.Bytes(many); len(b) != 0 {
			t.Errorf("Bytes(%d) = %q", many, b)
		}
		expectStopped(t, "Bytes", r, api.ErrShort)
	}
	r = vint.Read([]byte("\x04abc"))
	if b := r.Long(4); len(b) != 0 {
		t.Errorf("Long(4) = %q", b)
	}
	expectStopped(t, "Long", r, api.ErrShort)
}

// P1.2: Int takes any encoding, Least the shortest one only.
func TestReaderLeast(t *testing.T) {
	for _, c := range encodings {
		r := vint.Read([]byte(c.b + "\x01"))
		if n := r.Int(); n != c.n || r.Err() != api.OK || r.Left() != 1 {
			t.Errorf("Int of % x = %d, %d", c.b, n, r.Err())
		}
		r = vint.Read([]byte(c.b + "\x01"))
		n := r.Least()
		if c.size == vint.Len(c.n) {
			if n != c.n || r.Err() != api.OK || r.Left() != 1 {
				t.Errorf("Least of % x = %d, %d", c.b, n, r.Err())
			}
			continue
		}
		if n != 0 {
			t.Errorf("Least of % x = %d", c.b, n)
		}
		expectStopped(t, "Least", r, api.ErrForm)
	}
}

// P1.2: Count's bound; a negative one counts as 0.
func TestReaderCount(t *testing.T) {
	cases := []struct {
		b    string
		most int
		n    int
		e    api.Errno
	}{
		{"\x05", 5, 5, api.OK},
		{"\x05", 6, 5, api.OK},
		{"\x05", 4, 0, api.ErrRange},
		{"\x40\x05", 5, 5, api.OK},
		{"\x00", 0, 0, api.OK},
		{"\x01", 0, 0, api.ErrRange},
		{"\x00", -1, 0, api.OK},
		{"\x01", -1, 0, api.ErrRange},
		{"\x00", math.MinInt, 0, api.OK},
		{"\x01", math.MinInt, 0, api.ErrRange},
		{"\xff\xff\xff\xff\xff\xff\xff\xff", math.MaxInt, api.MaxInt, api.OK},
		{"\xff\xff\xff\xff\xff\xff\xff\xff", api.MaxInt, api.MaxInt, api.OK},
		{"\xff\xff\xff\xff\xff\xff\xff\xff", api.MaxInt - 1, 0, api.ErrRange},
		{"\xff\xff\xff\xff\xff\xff\xff\xff", -1, 0, api.ErrRange},
		{"\x41", 0, 0, api.ErrShort},
	}
	for _, c := range cases {
		r := vint.Read([]byte(c.b))
		if n := r.Count(c.most); n != c.n || r.Err() != c.e || r.Left() != 0 {
			t.Errorf("Count(%d) of % x = %d, %d, left %d", c.most, c.b, n, r.Err(), r.Left())
		}
	}
	r := vint.Read([]byte("\x05abcde"))
	r.Count(4)
	expectStopped(t, "Count", r, api.ErrRange)
}

// P1.2: Bytes takes exactly as many, none included.
func TestReaderBytes(t *testing.T) {
	for _, all := range []string{"", "abc"} {
		for many := range len(all) + 1 {
			r := vint.Read([]byte(all))
			if b := r.Bytes(many); string(b) != all[:many] || r.Err() != api.OK || r.Left() != len(all)-many {
				t.Errorf("Bytes(%d) of %q = %q, %d, left %d", many, all, b, r.Err(), r.Left())
			}
		}
	}
}

// P1.2: Long's bound is that of its Count.
func TestReaderLong(t *testing.T) {
	cases := []struct {
		b    string
		most int
		want string
		left int
		e    api.Errno
	}{
		{"\x03abcd", 3, "abc", 1, api.OK},
		{"\x03abcd", 9, "abc", 1, api.OK},
		{"\x40\x03abcd", 9, "abc", 1, api.OK},
		{"\x03abcd", 2, "", 0, api.ErrRange},
		{"\x03abcd", -1, "", 0, api.ErrRange},
		{"\x00abcd", 0, "", 4, api.OK},
		{"\x00abcd", -1, "", 4, api.OK},
		{"\x05abcd", 5, "", 0, api.ErrShort},
		{"\x05abcd", 4, "", 0, api.ErrRange},
		{"\xff\xff\xff\xff\xff\xff\xff\xff", math.MaxInt, "", 0, api.ErrShort},
		{"", 5, "", 0, api.ErrShort},
	}
	for _, c := range cases {
		r := vint.Read([]byte(c.b))
		if b := r.Long(c.most); string(b) != c.want || r.Left() != c.left || r.Err() != c.e {
			t.Errorf("Long(%d) of %q = %q, left %d, %d", c.most, c.b, b, r.Left(), r.Err())
		}
		if c.e != api.OK {
			expectStopped(t, "Long", r, c.e)
		}
	}
}

// P1.2: the first error counts; OK is none.
func TestReaderFail(t *testing.T) {
	r := vint.Read([]byte("abc"))
	r.Fail(api.OK)
	if r.Err() != api.OK || r.Left() != 3 || r.Byte() != 'a' {
		t.Errorf("OK stopped the reader: %d", r.Err())
	}
	r.Fail(api.ErrKind)
	expectStopped(t, "Fail", r, api.ErrKind)
	r.Fail(api.ErrSize)
	expectStopped(t, "Fail twice", r, api.ErrKind)

	r = vint.Read(nil)
	r.Fail(api.ErrKind)
	expectStopped(t, "Fail of an empty one", r, api.ErrKind)
}

// P1.2: End needs that all is read, and stops the reader otherwise.
func TestReaderEnd(t *testing.T) {
	r := vint.Read(nil)
	if r.End() != api.OK || r.Err() != api.OK {
		t.Errorf("End of none = %d", r.Err())
	}
	r = vint.Read([]byte("ab"))
	r.Byte()
	if e := r.End(); e != api.ErrRest {
		t.Errorf("End() = %d", e)
	}
	expectStopped(t, "End", r, api.ErrRest)

	r = vint.Read([]byte("\x05abc"))
	r.Count(4)
	if e := r.End(); e != api.ErrRange {
		t.Errorf("End() = %d", e)
	}
	// An end that was reached doesn't stop the reader, but there is nothing more to read.
	r = vint.Read([]byte("a"))
	r.Byte()
	if e := r.End(); e != api.OK {
		t.Errorf("End() = %d", e)
	}
	r.Byte()
	expectStopped(t, "behind the end", r, api.ErrShort)
}

// P1.2, P2 (R7): a nil reader.
func TestReaderNil(t *testing.T) {
	var r *vint.Reader
	r.Fail(api.ErrKind)
	expectStopped(t, "nil", r, api.ErrNil)
}

// P1: a reader that Read didn't make has nothing to read.
func TestReaderZero(t *testing.T) {
	r := new(vint.Reader)
	if r.Left() != 0 || r.Err() != api.OK || r.End() != api.OK {
		t.Errorf("zero: left %d, %d", r.Left(), r.Err())
	}
	r.Int()
	expectStopped(t, "zero", r, api.ErrShort)
}

// P2 (R6): a reader doesn't share memory with what it was given, nor with what it gave.
func TestReaderKeepsNothing(t *testing.T) {
	given := []byte("\x03abcdefg")
	r := vint.Read(given)
	clear(given)
	long, few := r.Long(3), r.Bytes(2)
	if string(long) != "abc" || string(few) != "de" {
		t.Fatalf("the reader shares its argument: %q, %q", long, few)
	}
	clear(long[:cap(long)])
	clear(few[:cap(few)])
	if rest := r.Bytes(2); string(rest) != "fg" {
		t.Errorf("the reader shares its results: %q", rest)
	}
	if !bytes.Equal(given, make([]byte, 8)) {
		t.Errorf("the argument was changed: % x", given)
	}
}
