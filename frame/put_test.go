package frame_test

import (
	"bytes"
	"slices"
	"strings"
	"testing"

	"binnacle/api"
	"binnacle/frame"
	"binnacle/span"
)

// P8.1: kinds that do not exist, whatever the fields are.
func TestPutKind(t *testing.T) {
	missing := 0
	for n := range 256 {
		k := frame.Kind(n)
		if _, is := kinds[k]; is {
			continue
		}
		missing++
		expectPutError(t, frame.Frame{Kind: k}, api.ErrKind)
		expectPutError(t, full(k), api.ErrKind)
		expectPutError(t, frame.Frame{Kind: k, Limit: top, Data: make([]byte, 1201), Prior: 1}, api.ErrKind)
	}
	if missing != 256-24 {
		t.Errorf("%d kinds do not exist", missing)
	}
}

// apart is so many ranges of one integer, each with one integer missing above it.
func apart(many int) []span.Range {
	var l []span.Range
	for i := range uint64(many) {
		l = append(l, span.Range{From: 2 * i, To: 2*i + 1})
	}
	return l
}

// P8.1: Ack and AckEcn have 1 to 32 ranges.
func TestPutMany(t *testing.T) {
	for _, k := range []frame.Kind{frame.Ack, frame.AckEcn} {
		for many := range 100 {
			f := frame.Frame{Kind: k, Ranges: apart(many)}
			if many < 1 || many > 32 {
				expectPutError(t, f, api.ErrMany)
				continue
			}
			b := modelPut(f, style{})
			expectPut(t, f, string(b))
			expectTake(t, string(b), f)
		}
		expectPutError(t, frame.Frame{Kind: k, Ranges: []span.Range{}}, api.ErrMany)
		// Their number comes first.
		expectPutError(t, frame.Frame{Kind: k, Ranges: make([]span.Range, 33)}, api.ErrMany)
		expectPutError(t, frame.Frame{Kind: k, Delay: top, Ecn: [3]uint64{top}}, api.ErrMany)
	}
}

// P8.1: all lists of up to three ranges among a few integers.
func TestPutRanges(t *testing.T) {
	const size = 7
	var ranges []span.Range
	for from := range uint64(size) {
		for to := range uint64(size) {
			ranges = append(ranges, span.Range{From: from, To: to})
		}
	}
	check := func(l ...span.Range) {
		f := frame.Frame{Kind: frame.Ack, Ranges: l, Delay: 1}
		if !ordered(l) {
			expectPutError(t, f, api.ErrOrder)
			return
		}
		b := modelPut(f, style{})
		expectPut(t, f, string(b))
		expectTake(t, string(b), f)
	}
	for _, x := range ranges {
		check(x)
		for _, y := range ranges {
			check(x, y)
			for _, z := range ranges {
				check(x, y, z)
			}
		}
	}
}

// ordered goes by the integers: they ascend, and wherever a range begins, at least one is missing.
func ordered(l []span.Range) bool {
	next := uint64(0)
	for _, x := range l {
		if x.From >= x.To || x.From < next {
			return false
		}
		next = x.To + 1
	}
	return true
}

// P8.1: ranges that are wrong, near both ends, and beside other errors.
func TestPutOrder(t *testing.T) {
	for _, k := range []frame.Kind{frame.Ack, frame.AckEcn} {
		for _, l := range [][]span.Range{
			{{}},
			{{From: 3, To: 3}},
			{{From: 4, To: 3}},
			{{From: top, To: 0}},
			{{From: top, To: top}},
			{{From: 1 << 62, To: 1 << 62}},
			{{From: 1, To: 3}, {From: 3, To: 5}},
			{{From: 1, To: 3}, {From: 2, To: 5}},
			{{From: 1, To: 3}, {From: 1, To: 3}},
			{{From: 5, To: 7}, {From: 1, To: 3}},
			{{From: 1, To: 3}, {From: 5, To: 5}},
			{{From: 1, To: 3}, {From: 5, To: 7}, {}},
			{{From: 1, To: 1}, {From: 5, To: 7}},
			{{From: 1, To: top}, {From: 0, To: 1}},
			{{From: 1, To: top}, {From: top, To: top}},
			{{From: 1 << 63, To: 1 << 62}, {From: 1 << 63, To: top}},
		} {
			expectPutError(t, frame.Frame{Kind: k, Ranges: l}, api.ErrOrder)
			expectPutError(t, frame.Frame{Kind: k, Ranges: l, Delay: top, Ecn: [3]uint64{top}}, api.ErrOrder)
		}
	}
	// The last ranges of as many as there may be.
	l := apart(32)
	for i := range l {
		for _, x := range []span.Range{{From: l[i].From, To: l[i].From}, {From: l[i].To, To: l[i].From}} {
			broken := slices.Clone(l)
			broken[i] = x
			expectPutError(t, frame.Frame{Kind: frame.Ack, Ranges: broken}, api.ErrOrder)
		}
		if i > 0 {
			touching := slices.Clone(l)
			touching[i].From--
			expectPutError(t, frame.Frame{Kind: frame.Ack, Ranges: touching}, api.ErrOrder)
		}
	}
}

// P8.1: no number that is encoded is above MaxInt; a range may end with MaxInt.
func TestPutNumbers(t *testing.T) {
	for _, n := range []uint64{1 << 62, 1<<62 + 1, 1 << 63, top} {
		to := max(n, n+1)
		for _, f := range []frame.Frame{
			{Kind: frame.Ack, Ranges: []span.Range{{From: 1, To: to}}},
			{Kind: frame.Ack, Ranges: []span.Range{{From: 1, To: 2}, {From: to - 1, To: to}}},
			{Kind: frame.Ack, Ranges: []span.Range{{From: to - 1, To: to}}},
			{Kind: frame.Ack, Ranges: apart(1), Delay: n},
			{Kind: frame.AckEcn, Ranges: apart(1), Delay: n},
			{Kind: frame.AckEcn, Ranges: []span.Range{{From: 1, To: to}}},
			{Kind: frame.AckEcn, Ranges: apart(1), Ecn: [3]uint64{0: n}},
			{Kind: frame.AckEcn, Ranges: apart(1), Ecn: [3]uint64{1: n}},
			{Kind: frame.AckEcn, Ranges: apart(1), Ecn: [3]uint64{2: n}},
			{Kind: frame.Reset, Stream: n},
			{Kind: frame.Reset, Code: n},
			{Kind: frame.Reset, Limit: n},
			{Kind: frame.Stop, Stream: n},
			{Kind: frame.Stop, Code: n},
			{Kind: frame.Crypto, Offset: n},
			{Kind: frame.Stream, Stream: n},
			{Kind: frame.Stream, Offset: n},
			{Kind: frame.MaxData, Limit: n},
			{Kind: frame.MaxStreamData, Stream: n},
			{Kind: frame.MaxStreamData, Limit: n},
			{Kind: frame.DataBlocked, Limit: n},
			{Kind: frame.StreamBlocked, Stream: n},
			{Kind: frame.StreamBlocked, Limit: n},
			{Kind: frame.NewId, Seq: n, Id: []byte("id")},
			{Kind: frame.NewId, Seq: n, Prior: n, Id: []byte("id")},
			{Kind: frame.RetireId, Seq: n},
			{Kind: frame.Close, Code: n},
			{Kind: frame.Close, Limit: n},
			{Kind: frame.CloseApp, Code: n},
		} {
			expectPutError(t, f, api.ErrRange)
		}
	}
	const most = 1<<62 - 1
	for _, f := range []frame.Frame{
		{Kind: frame.Ack, Ranges: []span.Range{{From: most, To: most + 1}}, Delay: most},
		{Kind: frame.AckEcn, Ranges: []span.Range{{From: 0, To: most + 1}}, Delay: most, Ecn: [3]uint64{most, most, most}},
		{Kind: frame.Reset, Stream: most, Code: most, Limit: most},
		{Kind: frame.Stop, Stream: most, Code: most},
		{Kind: frame.Crypto, Offset: most},
		{Kind: frame.Stream, Stream: most, Offset: most},
		{Kind: frame.MaxData, Limit: most},
		{Kind: frame.MaxStreamData, Stream: most, Limit: most},
		{Kind: frame.DataBlocked, Limit: most},
		{Kind: frame.StreamBlocked, Stream: most, Limit: most},
		{Kind: frame.NewId, Seq: most, Prior: most, Id: []byte("id")},
		{Kind: frame.RetireId, Seq: most},
		{Kind: frame.Close, Code: most, Limit: most},
		{Kind: frame.CloseApp, Code: most},
	} {
		b := modelPut(f, style{added: 6})
		expectPut(t, f, string(b))
		expectTake(t, string(b), f)
	}
}

// P8.1: Data of Crypto and Stream has at most 1200 bytes, and ends at most at MaxInt.
func TestPutPlace(t *testing.T) {
	for _, k := range []frame.Kind{frame.Crypto, frame.Stream} {
		for _, size := range []int{0, 1, 2, 63, 64, 1199, 1200, 1201, 1202, 1264, 5000} {
			data := bytes.Repeat([]byte("x"), size)
			for _, offset := range []uint64{0, 1, 1<<62 - 1 - uint64(size), 1<<62 - uint64(size), 1<<62 - 1, 1 << 62, 1 << 63, top - uint64(size), top - uint64(size) + 1, top} {
				f := frame.Frame{Kind: k, Offset: offset, Data: data}
				switch {
				case size > 1200:
					expectPutError(t, f, api.ErrSize)
				case offset > 1<<62-1-uint64(size):
					expectPutError(t, f, api.ErrRange)
				default:
					b := modelPut(f, style{added: 6})
					expectPut(t, f, string(b))
					expectTake(t, string(b), f)
				}
			}
		}
	}
	expectPutError(t, frame.Frame{Kind: frame.Stream, Stream: top, Data: make([]byte, 1201)}, api.ErrSize)
}

// P8.1: the sizes of tokens, reasons and IDs.
func TestPutSizes(t *testing.T) {
	for _, c := range []struct {
		f           frame.Frame
		least, most int
	}{
		{frame.Frame{Kind: frame.NewToken}, 1, 64},
		{frame.Frame{Kind: frame.Close, Code: 1, Limit: 2}, 0, 64},
		{frame.Frame{Kind: frame.CloseApp, Code: 1}, 0, 64},
		{frame.Frame{Kind: frame.NewId, Seq: 2, Prior: 1}, 1, 20},
	} {
		for size := range 600 {
			f, wrong := c.f, c.f
			data := bytes.Repeat([]byte("x"), size)
			if f.Kind == frame.NewId {
				f.Id = data
			} else {
				f.Data = data
			}
			if size >= c.least && size <= c.most {
				b := modelPut(f, style{})
				expectPut(t, f, string(b))
				expectTake(t, string(b), f)
				continue
			}
			expectPutError(t, f, api.ErrSize)
			// The size comes first.
			wrong.Id, wrong.Data, wrong.Code, wrong.Limit, wrong.Seq, wrong.Prior = f.Id, f.Data, top, top, 1<<62, top
			expectPutError(t, wrong, api.ErrSize)
		}
	}
}

// P8.1: numbers of streams have a limit of their own.
func TestPutLimit(t *testing.T) {
	for _, k := range []frame.Kind{frame.MaxBidi, frame.MaxUni, frame.BidiBlocked, frame.UniBlocked} {
		for _, n := range []uint64{0, 1, 1<<60 - 1, 1 << 60} {
			f := frame.Frame{Kind: k, Limit: n}
			b := modelPut(f, style{})
			expectPut(t, f, string(b))
			expectTake(t, string(b), f)
		}
		for _, n := range []uint64{1<<60 + 1, 1 << 61, 1<<62 - 1, 1 << 62, 1 << 63, top} {
			expectPutError(t, frame.Frame{Kind: k, Limit: n}, api.ErrLimit)
		}
	}
}

// P8.1: Prior is at most Seq, which is told ahead of numbers above MaxInt.
func TestPutPrior(t *testing.T) {
	numbers := []uint64{0, 1, 2, 63, 64, 1<<62 - 1, 1 << 62, 1 << 63, top}
	for _, seq := range numbers {
		for _, prior := range numbers {
			f := frame.Frame{Kind: frame.NewId, Seq: seq, Prior: prior, Id: []byte("id")}
			switch {
			case prior > seq:
				expectPutError(t, f, api.ErrOrder)
			case seq > 1<<62-1:
				expectPutError(t, f, api.ErrRange)
			default:
				b := modelPut(f, style{})
				expectPut(t, f, string(b))
				expectTake(t, string(b), f)
			}
		}
	}
}

// P8.1: the encoding is appended.
func TestPutAppends(t *testing.T) {
	for _, before := range []string{"", "a", strings.Repeat("before", 500)} {
		for _, c := range known {
			b, e := frame.Put([]byte(before), c.f)
			if e != api.OK || string(b) != before+c.b {
				t.Errorf("Put of %+v behind %d bytes = % x, %d", c.f, len(before), b, e)
			}
		}
	}
}

// P8.1: All of none, and the first error of several.
func TestAll(t *testing.T) {
	for _, l := range [][]frame.Frame{nil, {}} {
		if b, e := frame.All(l); e != api.OK || len(b) != 0 {
			t.Errorf("All of none = % x, %d", b, e)
		}
	}
	ping := frame.Frame{Kind: frame.Ping}
	wrong := []struct {
		f frame.Frame
		e api.Errno
	}{
		{frame.Frame{Kind: frame.Ack}, api.ErrMany},
		{frame.Frame{Kind: frame.RetireId, Seq: top}, api.ErrRange},
		{frame.Frame{Kind: 9}, api.ErrKind},
		{frame.Frame{Kind: frame.NewToken}, api.ErrSize},
		{frame.Frame{Kind: frame.MaxUni, Limit: top}, api.ErrLimit},
		{frame.Frame{Kind: frame.NewId, Id: []byte("id"), Prior: 1}, api.ErrOrder},
	}
	for _, x := range wrong {
		for _, y := range wrong {
			for _, l := range [][]frame.Frame{{x.f}, {ping, x.f}, {x.f, ping}, {x.f, y.f}, {ping, x.f, ping, y.f, ping}} {
				if b, e := frame.All(l); e != x.e || len(b) != 0 {
					t.Errorf("All of %+v = % x, %d, want %d", l, b, e, x.e)
				}
			}
		}
	}
}

// P8.1, P8.2: packets of frames of all kinds with values of all sizes.
func TestRoundTrip(t *testing.T) {
	for n := range 3000 {
		s := newSome(n)
		var l []frame.Frame
		var want []byte
		for range 1 + s.IntN(8) {
			f := s.frame(s.kind())
			l = append(l, f)
			one := modelPut(f, finish(f, 6, 0))
			expectPut(t, f, string(one))
			want = append(want, one...)
		}
		b, e := frame.All(l)
		if e != api.OK || !bytes.Equal(b, want) {
			t.Errorf("All of %+v = % x, %d, want % x", l, b, e, want)
		}
		expectTake(t, string(b), l...)
	}
}

// finish is a style for a frame, with which a Stream frame ends or does not as it says.
func finish(f frame.Frame, added byte, wide int) style {
	if f.Fin {
		added++
	}
	return style{added: added, wide: wide}
}
