package frame

import (
	"slices"

	"binnacle/api"
	"binnacle/span"
	"binnacle/vint"
)

// What is added to the kind of a Stream frame.
const (
	ends    = 1 << iota // Fin is set
	sized               // the length of Data is present
	shifted             // Offset is present
)

// Put returns b with the encoding of a frame appended.
func Put(b []byte, f Frame) ([]byte, api.Errno) {
	own, e := f.encode()
	if e != api.OK {
		return nil, e
	}
	// A new slice, because the spare capacity of b is the caller's.
	return slices.Concat(b, own), api.OK
}

// All returns the encodings of frames one after another, or the first error.
func All(l []Frame) ([]byte, api.Errno) {
	var all []byte
	for _, f := range l {
		own, e := f.encode()
		if e != api.OK {
			return nil, e
		}
		all = append(all, own...)
	}
	return all, api.OK
}

func (f Frame) encode() ([]byte, api.Errno) {
	if e := f.fault(); e != api.OK {
		return nil, e
	}
	var w vint.Writer
	f.writeKind(&w)
	for _, field := range f.numbers() {
		w.Int(*field)
	}
	f.writeRest(&w)
	// If a number is above MaxInt, the writer has stopped with the error that is due.
	return w.Done()
}

// fault returns what is wrong with the frame, apart from numbers that have no encoding.
func (f Frame) fault() api.Errno {
	switch f.Kind {
	case Padding, Ping, Reset, Stop, MaxData, MaxStreamData, DataBlocked, StreamBlocked, RetireId, Challenge, Response, Done:
		return api.OK
	case Ack, AckEcn:
		return faultOfRanges(f.Ranges)
	case Crypto, Stream:
		return f.faultOfPlace()
	case NewToken:
		return faultOfSize(f.Data, 1, api.MaxToken)
	case MaxBidi, MaxUni, BidiBlocked, UniBlocked:
		return f.faultOfLimit()
	case NewId:
		if e := faultOfSize(f.Id, 1, api.MaxId); e != api.OK {
			return e
		}
		return f.faultOfPrior()
	case Close, CloseApp:
		return faultOfSize(f.Data, 0, api.MaxReason)
	}
	return api.ErrKind
}

func faultOfRanges(l []span.Range) api.Errno {
	if len(l) == 0 || len(l) > api.MaxRanges {
		return api.ErrMany
	}
	for i, x := range l {
		if x.From >= x.To || i > 0 && x.From <= l[i-1].To {
			return api.ErrOrder
		}
	}
	return api.OK
}

func (f Frame) faultOfPlace() api.Errno {
	if e := faultOfSize(f.Data, 0, api.MaxDatagram); e != api.OK {
		return e
	}
	return f.faultOfEnd()
}

func faultOfSize(b []byte, least, most int) api.Errno {
	if len(b) < least || len(b) > most {
		return api.ErrSize
	}
	return api.OK
}

// faultOfEnd is for Data whose size has been checked.
func (f Frame) faultOfEnd() api.Errno {
	// Not a sum with Offset, which could overflow.
	if f.Offset > api.MaxInt-uint64(len(f.Data)) {
		return api.ErrRange
	}
	return api.OK
}

func (f Frame) faultOfLimit() api.Errno {
	if f.Limit > maxStreams {
		return api.ErrLimit
	}
	return api.OK
}

func (f Frame) faultOfPrior() api.Errno {
	if f.Prior > f.Seq {
		return api.ErrOrder
	}
	return api.OK
}

func (f Frame) writeKind(w *vint.Writer) {
	n := uint64(f.Kind)
	if f.Kind == Stream {
		n += shifted + sized
		if f.Fin {
			n += ends
		}
	}
	w.Int(n)
}

// writeRest writes what follows the numbers.
func (f Frame) writeRest(w *vint.Writer) {
	switch f.Kind {
	case Ack:
		f.writeRanges(w)
	case AckEcn:
		f.writeRanges(w)
		w.Int(f.Ecn[:]...)
	case Crypto, NewToken, Stream, Close, CloseApp:
		w.Long(f.Data)
	case NewId:
		w.Bytes(byte(len(f.Id)))
		w.Bytes(f.Id...)
		w.Bytes(f.Token[:]...)
	case Challenge, Response:
		w.Bytes(f.Word[:]...)
	}
}

func (f Frame) writeRanges(w *vint.Writer) {
	further := len(f.Ranges) - 1
	x := f.Ranges[further]
	w.Int(x.To-1, f.Delay, uint64(further), x.To-x.From-1)
	for i := further - 1; i >= 0; i-- {
		above := x.From
		x = f.Ranges[i]
		w.Int(above-x.To-1, x.To-x.From-1)
	}
}
