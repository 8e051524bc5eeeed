package vint

import (
	"bytes"

	"binnacle/api"
)

// Writer appends numbers and bytes one after another; its zero value is empty. A number without an encoding stops it.
type Writer struct {
	all []byte
	err api.Errno
}

// Int appends integers in their shortest encoding.
func (w *Writer) Int(l ...uint64) {
	if w.stopped() {
		return
	}
	for _, n := range l {
		size := Len(n)
		if size == 0 {
			w.err = api.ErrRange
			w.all = nil
			return
		}
		w.all = extend(w.all, n, size)
	}
}

// A stopped writer takes nothing more, because Done never shows it.
func (w *Writer) stopped() bool {
	return w == nil || w.err != api.OK
}

// Bytes appends bytes.
func (w *Writer) Bytes(b ...byte) {
	if w.stopped() {
		return
	}
	w.all = append(w.all, b...)
}

// Long appends the length of b as an integer, and b.
func (w *Writer) Long(b []byte) {
	w.Int(uint64(len(b)))
	w.Bytes(b...)
}

// Done returns all bytes, or the error that stopped the writer.
func (w *Writer) Done() ([]byte, api.Errno) {
	if w == nil {
		return nil, api.ErrNil
	}
	if w.err != api.OK {
		return nil, w.err
	}
	return bytes.Clone(w.all), api.OK
}
