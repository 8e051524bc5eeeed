package frame_test

import (
	"slices"
	"testing"

	"binnacle/api"
	"binnacle/frame"
	"binnacle/span"
)

// P8.1: the chapter's example.
func TestExample(t *testing.T) {
	expectPut(t, frame.Frame{Kind: frame.Ping}, "\x01")
}

// P8.1: the kinds have the numbers of QUIC.
func TestKinds(t *testing.T) {
	if len(kinds) != 24 {
		t.Errorf("%d kinds", len(kinds))
	}
	for k, number := range kinds {
		if byte(k) != number {
			t.Errorf("kind %d, want %d", k, number)
		}
	}
}

// P8.2: every number that a kind can have, whether a kind exists with it or not.
func TestAbout(t *testing.T) {
	passive := []frame.Kind{frame.Padding, frame.Ack, frame.AckEcn, frame.Close, frame.CloseApp}
	probing := []frame.Kind{frame.Padding, frame.Challenge, frame.Response, frame.NewId}
	early := []frame.Kind{frame.Padding, frame.Ping, frame.Ack, frame.AckEcn, frame.Crypto, frame.Close}
	for n := range 256 {
		k := frame.Kind(n)
		// The other fields do not matter.
		for _, f := range []frame.Frame{{Kind: k}, full(k)} {
			if f.Eliciting() == slices.Contains(passive, k) {
				t.Errorf("kind %d: Eliciting = %t", n, f.Eliciting())
			}
			if f.Probing() != slices.Contains(probing, k) {
				t.Errorf("kind %d: Probing = %t", n, f.Probing())
			}
			if f.Early() != slices.Contains(early, k) {
				t.Errorf("kind %d: Early = %t", n, f.Early())
			}
		}
	}
}

// full has a value in every field.
func full(k frame.Kind) frame.Frame {
	return frame.Frame{
		Kind: k, Stream: 1, Offset: 2, Limit: 3, Code: 4, Data: []byte("data"), Fin: true,
		Ranges: []span.Range{{From: 1, To: 3}, {From: 5, To: 7}}, Delay: 5, Ecn: [3]uint64{6, 7, 8}, Seq: 9, Prior: 8,
		Id: []byte("id"), Token: [16]byte{0: 1, 15: 2}, Word: [8]byte{0: 1, 7: 2},
	}
}

// changed is frames that each differ from f in one field.
func changed(f frame.Frame) []frame.Frame {
	l := make([]frame.Frame, 25)
	for i := range l {
		l[i] = f
	}
	l[0].Kind++
	l[1].Stream ^= 1 << 63
	l[2].Offset++
	l[3].Limit++
	l[4].Code++
	l[5].Data = append(slices.Clone(f.Data), 0)
	l[6].Data = []byte("dat")
	l[7].Data = []byte("dats")
	l[8].Data = []byte("Data")
	l[9].Fin = !f.Fin
	l[10].Ranges = append(slices.Clone(f.Ranges), span.Range{From: 9, To: 10})
	l[11].Ranges = []span.Range{{From: 1, To: 3}}
	l[12].Ranges = []span.Range{{From: 2, To: 3}, {From: 5, To: 7}}
	l[13].Ranges = []span.Range{{From: 1, To: 3}, {From: 5, To: 8}}
	l[14].Ranges = []span.Range{{From: 5, To: 7}, {From: 1, To: 3}}
	l[15].Delay++
	l[16].Ecn[0]++
	l[17].Ecn[2]++
	l[18].Seq++
	l[19].Prior++
	l[20].Id = append(slices.Clone(f.Id), 0)
	l[21].Id = []byte("ID")
	l[22].Token[0]++
	l[23].Token[15]++
	l[24].Word[7]++
	return l
}

// P8.2: Same goes by all fields, those included that the kind does not use.
func TestSame(t *testing.T) {
	for n := range 256 {
		for _, f := range []frame.Frame{{Kind: frame.Kind(n)}, full(frame.Kind(n))} {
			for i, other := range append(changed(f), f) {
				same := i == 25
				if frame.Same(f, other) != same || frame.Same(other, f) != same {
					t.Errorf("Same of %+v and %+v, want %t", f, other, same)
				}
			}
		}
		if !frame.Same(full(frame.Kind(n)), full(frame.Kind(n))) {
			t.Errorf("kind %d: frames made alike are not the same", n)
		}
	}
}

// P8.2, R5: lists that are nil or empty are the same.
func TestSameEmpty(t *testing.T) {
	without := frame.Frame{Kind: frame.Crypto}
	with := frame.Frame{Kind: frame.Crypto, Data: []byte{}, Ranges: []span.Range{}, Id: []byte{}}
	if !frame.Same(with, without) || !frame.Same(without, with) || !frame.Same(with, with) || !frame.Same(without, without) {
		t.Error("empty lists are told from nil ones")
	}
	for _, f := range []frame.Frame{{Kind: frame.Crypto, Data: []byte{0}}, {Kind: frame.Crypto, Ranges: make([]span.Range, 1)}, {Kind: frame.Crypto, Id: []byte{0}}} {
		for _, empty := range []frame.Frame{with, without} {
			if frame.Same(f, empty) || frame.Same(empty, f) {
				t.Errorf("%+v is the same as %+v", f, empty)
			}
		}
	}
}

// known are frames of all kinds, and what the chapter makes of them.
var known = []struct {
	f frame.Frame
	b string
}{
	{frame.Frame{Kind: frame.Padding}, "\x00"},
	{frame.Frame{Kind: frame.Ping}, "\x01"},
	{frame.Frame{Kind: frame.Ack, Ranges: []span.Range{{From: 0, To: 1}}}, "\x02\x00\x00\x00\x00"},
	{frame.Frame{Kind: frame.Ack, Ranges: []span.Range{{From: 3, To: 8}}, Delay: 300}, "\x02\x07\x41\x2c\x00\x04"},
	{frame.Frame{Kind: frame.Ack, Ranges: []span.Range{{From: 0, To: 3}, {From: 5, To: 8}}, Delay: 9}, "\x02\x07\x09\x01\x02\x01\x02"},
	{frame.Frame{Kind: frame.Ack, Ranges: []span.Range{{From: 1, To: 2}, {From: 3, To: 4}, {From: 70, To: 101}}}, "\x02\x40\x64\x00\x02\x1e\x40\x41\x00\x00\x00"},
	{frame.Frame{Kind: frame.Ack, Ranges: []span.Range{{From: 0, To: 1 << 62}}}, "\x02\xff\xff\xff\xff\xff\xff\xff\xff\x00\x00\xff\xff\xff\xff\xff\xff\xff\xff"},
	{frame.Frame{Kind: frame.Ack, Ranges: []span.Range{{From: 0, To: 1}, {From: 1<<62 - 1, To: 1 << 62}}}, "\x02\xff\xff\xff\xff\xff\xff\xff\xff\x00\x01\x00\xff\xff\xff\xff\xff\xff\xff\xfd\x00"},
	{frame.Frame{Kind: frame.AckEcn, Ranges: []span.Range{{From: 0, To: 3}, {From: 5, To: 8}}, Delay: 9, Ecn: [3]uint64{1, 64, 3}}, "\x03\x07\x09\x01\x02\x01\x02\x01\x40\x40\x03"},
	{frame.Frame{Kind: frame.Reset, Stream: 4, Code: 5, Limit: 300}, "\x04\x04\x05\x41\x2c"},
	{frame.Frame{Kind: frame.Stop, Stream: 4, Code: 300}, "\x05\x04\x41\x2c"},
	{frame.Frame{Kind: frame.Crypto, Offset: 300, Data: []byte("abc")}, "\x06\x41\x2c\x03abc"},
	{frame.Frame{Kind: frame.Crypto}, "\x06\x00\x00"},
	{frame.Frame{Kind: frame.NewToken, Data: []byte("token")}, "\x07\x05token"},
	{frame.Frame{Kind: frame.Stream, Stream: 4, Offset: 300, Data: []byte("hi")}, "\x0e\x04\x41\x2c\x02hi"},
	{frame.Frame{Kind: frame.Stream, Stream: 4, Offset: 300, Data: []byte("hi"), Fin: true}, "\x0f\x04\x41\x2c\x02hi"},
	{frame.Frame{Kind: frame.Stream}, "\x0e\x00\x00\x00"},
	{frame.Frame{Kind: frame.Stream, Fin: true}, "\x0f\x00\x00\x00"},
	{frame.Frame{Kind: frame.MaxData, Limit: 300}, "\x10\x41\x2c"},
	{frame.Frame{Kind: frame.MaxStreamData, Stream: 4, Limit: 300}, "\x11\x04\x41\x2c"},
	{frame.Frame{Kind: frame.MaxBidi, Limit: 1 << 60}, "\x12\xd0\x00\x00\x00\x00\x00\x00\x00"},
	{frame.Frame{Kind: frame.MaxUni, Limit: 300}, "\x13\x41\x2c"},
	{frame.Frame{Kind: frame.DataBlocked, Limit: 300}, "\x14\x41\x2c"},
	{frame.Frame{Kind: frame.StreamBlocked, Stream: 4, Limit: 300}, "\x15\x04\x41\x2c"},
	{frame.Frame{Kind: frame.BidiBlocked, Limit: 300}, "\x16\x41\x2c"},
	{frame.Frame{Kind: frame.UniBlocked, Limit: 1 << 60}, "\x17\xd0\x00\x00\x00\x00\x00\x00\x00"},
	{frame.Frame{Kind: frame.NewId, Seq: 300, Prior: 5, Id: []byte("abcde"), Token: [16]byte([]byte("0123456789ABCDEF"))}, "\x18\x41\x2c\x05\x05abcde0123456789ABCDEF"},
	{frame.Frame{Kind: frame.NewId, Id: []byte("a"), Token: [16]byte([]byte("0123456789ABCDEF"))}, "\x18\x00\x00\x01a0123456789ABCDEF"},
	{frame.Frame{Kind: frame.RetireId, Seq: 300}, "\x19\x41\x2c"},
	{frame.Frame{Kind: frame.Challenge, Word: [8]byte([]byte("12345678"))}, "\x1a12345678"},
	{frame.Frame{Kind: frame.Response, Word: [8]byte([]byte("12345678"))}, "\x1b12345678"},
	{frame.Frame{Kind: frame.Close, Code: 300, Limit: 6, Data: []byte("why")}, "\x1c\x41\x2c\x06\x03why"},
	{frame.Frame{Kind: frame.Close}, "\x1c\x00\x00\x00"},
	{frame.Frame{Kind: frame.CloseApp, Code: 300, Data: []byte("why")}, "\x1d\x41\x2c\x03why"},
	{frame.Frame{Kind: frame.CloseApp}, "\x1d\x00\x00"},
	{frame.Frame{Kind: frame.Done}, "\x1e"},
}

// P8.1, P8.2: frames of all kinds, there and back; each alone and all in one packet.
func TestKnown(t *testing.T) {
	var l []frame.Frame
	var all string
	for _, c := range known {
		expectPut(t, c.f, c.b)
		expectTake(t, c.b, c.f)
		l = append(l, c.f)
		all += c.b
	}
	b, e := frame.All(l)
	if e != api.OK || string(b) != all {
		t.Errorf("All = % x, %d, want % x", b, e, all)
	}
	expectTake(t, all, l...)
}

// P8.1: what the kind does not use is not encoded, and is not checked.
func TestUnused(t *testing.T) {
	wild := frame.Frame{
		Stream: top, Offset: top, Limit: top, Code: top, Data: make([]byte, 1201), Fin: true,
		Ranges: []span.Range{{From: 9, To: 3}}, Delay: top, Ecn: [3]uint64{top, top, top}, Seq: 1, Prior: top, Id: make([]byte, 21),
		Token: [16]byte{1}, Word: [8]byte{1},
	}
	for _, c := range known {
		f := wild
		f.Kind = c.f.Kind
		fields, _ := fieldsOf(uint64(c.b[0]))
		for _, letter := range fields {
			switch letter {
			case 's':
				f.Stream = c.f.Stream
			case 'o':
				f.Offset = c.f.Offset
			case 'l', 'm':
				f.Limit = c.f.Limit
			case 'c':
				f.Code = c.f.Code
			case 'd', 't', 'y':
				f.Data = c.f.Data
			case 'a':
				f.Ranges = c.f.Ranges
			case 'g':
				f.Delay = c.f.Delay
			case 'e':
				f.Ecn = c.f.Ecn
			case 'q':
				f.Seq = c.f.Seq
			case 'p':
				f.Prior = c.f.Prior
			case 'i':
				f.Id = c.f.Id
			case 'k':
				f.Token = c.f.Token
			case 'w':
				f.Word = c.f.Word
			}
		}
		if f.Kind == frame.Stream {
			f.Fin = c.f.Fin
		}
		expectPut(t, f, c.b)
	}
}
