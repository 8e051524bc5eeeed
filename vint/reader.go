package vint

import (
	"bytes"

	"binnacle/api"
)

// Reader decodes one item after another. The first one that cannot be decoded stops it: from then on every item is a zero value.
type Reader struct {
	rest []byte // nil once the reader has stopped
	err  api.Errno
}

// Read returns a reader of b.
func Read(b []byte) *Reader {
	// A copy, because b may change while the reader is still in use.
	return &Reader{rest: bytes.Clone(b)}
}

// Fail stops the reader with an error; the first error counts.
func (r *Reader) Fail(e api.Errno) {
	if r == nil || e == api.OK || r.err != api.OK {
		return
	}
	r.err = e
	// Without bytes no later item can be decoded, so no other method has to ask whether the reader has stopped.
	r.rest = nil
}

// Err returns the error that stopped the reader.
func (r *Reader) Err() api.Errno {
	if r == nil {
		return api.ErrNil
	}
	return r.err
}

// Left returns the number of bytes that have not been read.
func (r *Reader) Left() int {
	if r == nil {
		return 0
	}
	return len(r.rest)
}

// Int reads an integer.
func (r *Reader) Int() uint64 {
	n, _, _ := r.take()
	return n
}

// Least reads an integer, which must have the shortest encoding.
func (r *Reader) Least() uint64 {
	n, size, ok := r.take()
	if ok && size != Len(n) {
		r.Fail(api.ErrForm)
		return 0
	}
	return n
}

func (r *Reader) take() (n uint64, size int, ok bool) {
	if r == nil {
		return 0, 0, false
	}
	n, size, e := Take(r.rest)
	if e != api.OK {
		r.Fail(e)
		return 0, 0, false
	}
	r.rest = r.rest[size:]
	return n, size, true
}

// Count reads an integer that is at most most; a negative most counts as 0.
func (r *Reader) Count(most int) int {
	n := r.Int()
	if n > uint64(max(most, 0)) {
		r.Fail(api.ErrRange)
		return 0
	}
	return int(n)
}

// Bytes reads that many bytes.
func (r *Reader) Bytes(many int) []byte {
	return bytes.Clone(r.next(many))
}

// Byte reads one byte.
func (r *Reader) Byte() byte {
	if b := r.next(1); len(b) == 1 {
		return b[0]
	}
	return 0
}

// next answers a piece of the reader's own bytes, which must not be handed out.
func (r *Reader) next(many int) []byte {
	if many < 0 || many > r.Left() {
		r.Fail(api.ErrShort)
		return nil
	}
	if many == 0 {
		return nil
	}
	b := r.rest[:many]
	r.rest = r.rest[many:]
	return b
}

// Long reads a Count, and then that many bytes.
func (r *Reader) Long(most int) []byte {
	return r.Bytes(r.Count(most))
}

// End returns the error that stopped the reader; bytes that are left stop it too.
func (r *Reader) End() api.Errno {
	if r.Left() > 0 {
		r.Fail(api.ErrRest)
	}
	return r.Err()
}
