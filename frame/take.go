package frame

import (
	"slices"

	"binnacle/api"
	"binnacle/span"
	"binnacle/vint"
)

// Take decodes the frames of a packet, of which there must be at least one.
func Take(b []byte) ([]Frame, api.Errno) {
	if len(b) == 0 {
		return nil, api.ErrFrame
	}
	var l []Frame
	r := vint.Read(b)
	// An error leaves no bytes, so it ends the loop, too.
	for r.Left() > 0 {
		l = append(l, take(r))
	}
	if e := r.Err(); e != api.OK {
		return nil, e
	}
	return l, api.OK
}

// take decodes a frame; if that stops the reader, the result does not count.
func take(r *vint.Reader) Frame {
	n := r.Least()
	if n > uint64(Done) {
		r.Fail(api.ErrKind)
		return Frame{}
	}
	if n >= uint64(Stream) && n < uint64(MaxData) {
		return takeStream(r, n-uint64(Stream))
	}
	f := Frame{Kind: Kind(n)}
	for _, field := range f.numbers() {
		*field = r.Int()
	}
	f.takeRest(r)
	return f
}

func takeStream(r *vint.Reader, added uint64) Frame {
	f := Frame{Kind: Stream, Stream: r.Int(), Fin: added&ends != 0}
	if added&shifted != 0 {
		f.Offset = r.Int()
	}
	if added&sized != 0 {
		f.Data = r.Long(api.MaxDatagram)
	} else {
		f.Data = takeLast(r)
	}
	r.Fail(f.faultOfEnd())
	return f
}

// takeLast reads all bytes that are left.
func takeLast(r *vint.Reader) []byte {
	if r.Left() > api.MaxDatagram {
		r.Fail(api.ErrRange)
	}
	return r.Bytes(r.Left())
}

// takeRest reads what follows the numbers. The first error of the reader counts, so a field is checked without asking whether it could be read.
func (f *Frame) takeRest(r *vint.Reader) {
	switch f.Kind {
	case Ack:
		f.takeRanges(r)
	case AckEcn:
		f.takeRanges(r)
		f.Ecn = [3]uint64{r.Int(), r.Int(), r.Int()}
	case Crypto:
		f.Data = r.Long(api.MaxDatagram)
		r.Fail(f.faultOfEnd())
	case NewToken:
		f.Data = r.Long(api.MaxToken)
		r.Fail(faultOfSize(f.Data, 1, api.MaxToken))
	case MaxBidi, MaxUni, BidiBlocked, UniBlocked:
		r.Fail(f.faultOfLimit())
	case NewId:
		f.takeId(r)
	case Challenge, Response:
		copy(f.Word[:], r.Bytes(len(f.Word)))
	case Close, CloseApp:
		f.Data = r.Long(api.MaxReason)
	}
}

func (f *Frame) takeRanges(r *vint.Reader) {
	end := r.Int() + 1
	f.Delay = r.Int()
	further := r.Count(api.MaxRanges - 1)
	x := takeRange(r, end, 0)
	f.Ranges = append(f.Ranges, x)
	for range further {
		missing := r.Int() + 1
		x = takeRange(r, x.From, missing)
		f.Ranges = append(f.Ranges, x)
	}
	slices.Reverse(f.Ranges)
}

// takeRange reads how many integers a range has that is below end, with some missing in between.
func takeRange(r *vint.Reader, end, missing uint64) span.Range {
	many := r.Int() + 1
	if missing+many > end {
		r.Fail(api.ErrOrder)
		return span.Range{}
	}
	return span.Range{From: end - missing - many, To: end - missing}
}

func (f *Frame) takeId(r *vint.Reader) {
	size := int(r.Byte())
	if size < 1 || size > api.MaxId {
		r.Fail(api.ErrSize)
	}
	f.Id = r.Bytes(size)
	copy(f.Token[:], r.Bytes(len(f.Token)))
	r.Fail(f.faultOfPrior())
}
