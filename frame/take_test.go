package frame_test

import (
	"slices"
	"strings"
	"testing"

	"binnacle/api"
	"binnacle/frame"
	"binnacle/span"
)

const big = "\xff\xff\xff\xff\xff\xff\xff\xff" // MaxInt

// P8.2: no frame at all.
func TestTakeNone(t *testing.T) {
	expectTakeError(t, "", api.ErrFrame)
	if l, e := frame.Take(nil); e != api.ErrFrame || len(l) != 0 {
		t.Errorf("Take of nil = %v, %d", l, e)
	}
}

// P8.2: every kind in every encoding; only the shortest one counts, and only kinds that exist do.
func TestTakeKind(t *testing.T) {
	rest := strings.Repeat("\x01", 40)
	for n := range uint64(300) {
		_, is := fieldsOf(n)
		for _, wide := range []int{1, 2, 4, 8} {
			number := style{wide: wide}.number(n)
			all := string(number) + rest
			shortest := len(number) == len(style{}.number(n))
			switch {
			case !shortest:
				expectTakeError(t, all, api.ErrForm)
				expectTakeError(t, "\x01"+all, api.ErrForm)
			case !is:
				expectTakeError(t, all, api.ErrKind)
				expectTakeError(t, string(number), api.ErrKind)
				expectTakeError(t, "\x01"+all, api.ErrKind)
			default:
				expectModel(t, []byte(all))
			}
			for i := 1; i < len(number); i++ {
				expectTakeError(t, string(number[:i]), api.ErrShort)
			}
		}
	}
	// Kinds whose last byte would be one that exists.
	for _, b := range []string{"\x41\x01", "\x80\x01\x00\x01", "\xc0\x00\x00\x01\x00\x00\x00\x01", big} {
		expectTakeError(t, b, api.ErrKind)
	}
}

// P8.2: a Stream frame may leave out its offset or its length.
func TestTakeStream(t *testing.T) {
	f := frame.Frame{Kind: frame.Stream, Stream: 4, Data: []byte("hi")}
	g := f
	g.Offset = 300
	ping := frame.Frame{Kind: frame.Ping}
	for _, fin := range []bool{false, true} {
		f.Fin, g.Fin = fin, fin
		kind := func(n byte) string {
			if fin {
				n++
			}
			return string(n)
		}
		expectTake(t, kind(8)+"\x04hi", f)
		expectTake(t, kind(10)+"\x04\x02hi\x01", f, ping)
		expectTake(t, kind(12)+"\x04\x41\x2chi", g)
		expectTake(t, kind(14)+"\x04\x41\x2c\x02hi\x01", g, ping)
		expectTake(t, "\x01"+kind(8)+"\x04hi", ping, f)
		expectTake(t, "\x01"+kind(12)+"\x04\x41\x2chi", ping, g)
		// What would be a frame is Data, too, and Data may be empty.
		expectTake(t, kind(8)+"\x04\x01", frame.Frame{Kind: frame.Stream, Stream: 4, Data: []byte{1}, Fin: fin})
		expectTake(t, kind(8)+"\x04", frame.Frame{Kind: frame.Stream, Stream: 4, Fin: fin})
		expectTake(t, kind(10)+"\x04\x00\x01", frame.Frame{Kind: frame.Stream, Stream: 4, Fin: fin}, ping)
		expectTake(t, kind(12)+"\x04\x05", frame.Frame{Kind: frame.Stream, Stream: 4, Offset: 5, Fin: fin})
	}
}

// P8.2: the length of Data is limited, whether it is present or not.
func TestTakeLong(t *testing.T) {
	for size := 1190; size < 1300; size++ {
		data := strings.Repeat("x", size)
		length := string(style{}.number(uint64(size)))
		for _, b := range []string{"\x06\x00" + length, "\x08\x00", "\x0a\x00" + length, "\x0c\x00\x00", "\x0e\x00\x00" + length, "\x09\x00", "\x0d\x00\x00"} {
			if size > 1200 {
				expectTakeError(t, b+data, api.ErrRange)
				continue
			}
			l, e := frame.Take([]byte(b + data))
			if e != api.OK || len(l) != 1 || string(l[0].Data) != data {
				t.Errorf("Take of % x and %d bytes = %+v, %d", b, size, l, e)
			}
		}
	}
	for size := range 600 {
		data := strings.Repeat("x", size)
		length := string(style{}.number(uint64(size)))
		for _, b := range []string{"\x07", "\x1c\x00\x00", "\x1d\x00"} {
			switch {
			case size > 64:
				expectTakeError(t, b+length+data, api.ErrRange)
				expectTakeError(t, b+length, api.ErrRange)
			case b == "\x07" && size == 0:
				expectTakeError(t, b+length, api.ErrSize)
				expectTakeError(t, b+length+"\x1f", api.ErrSize)
			default:
				expectModel(t, []byte(b+length+data))
				expectTakeError(t, b+length+data+"\x1f", api.ErrKind)
			}
			if size > 0 && size <= 64 {
				expectTakeError(t, b+length+data[1:], api.ErrShort)
			}
		}
	}
	// A length that is too great is told though there are no bytes.
	for _, b := range []string{"\x06\x00", "\x0a\x00", "\x0e\x00\x00", "\x0f\x00\x00"} {
		expectTakeError(t, b+"\x44\xb1", api.ErrRange)
		expectTakeError(t, b+big, api.ErrRange)
		expectTakeError(t, b+"\x44\xb0", api.ErrShort)
	}
}

// P8.2: no byte is beyond MaxInt.
func TestTakeBeyond(t *testing.T) {
	for _, c := range []struct {
		b string
		e api.Errno
	}{
		{"\x06" + big + "\x00", api.OK},
		{"\x06" + big + "\x01x", api.ErrRange},
		{"\x06\xff\xff\xff\xff\xff\xff\xff\xfe\x01x", api.OK},
		{"\x06\xff\xff\xff\xff\xff\xff\xff\xfe\x02xx", api.ErrRange},
		{"\x0e\x00" + big + "\x00", api.OK},
		{"\x0e\x00" + big + "\x01x", api.ErrRange},
		{"\x0f\x00\xff\xff\xff\xff\xff\xff\xff\xfe\x01x", api.OK},
		{"\x0f\x00\xff\xff\xff\xff\xff\xff\xff\xfe\x02xx", api.ErrRange},
		{"\x0c\x00" + big, api.OK},
		{"\x0c\x00" + big + "x", api.ErrRange},
		{"\x0d\x00\xff\xff\xff\xff\xff\xff\xff\xfex", api.OK},
		{"\x0d\x00\xff\xff\xff\xff\xff\xff\xff\xfexx", api.ErrRange},
		// The offset and the Data are two fields: both are read first.
		{"\x06" + big + "\x02x", api.ErrShort},
		{"\x0e\x00" + big + "\x02x", api.ErrShort},
		// What follows comes later.
		{"\x06" + big + "\x01x\x1f", api.ErrRange},
		{"\x0e\x00" + big + "\x01x\x1f", api.ErrRange},
	} {
		if c.e != api.OK {
			expectTakeError(t, c.b, c.e)
		}
		expectModel(t, []byte(c.b))
	}
}

// P8.2: the ranges of Ack and AckEcn, which stay above 0.
func TestTakeRanges(t *testing.T) {
	for _, c := range []struct {
		b string
		e api.Errno
	}{
		{"\x00\x00\x00\x00", api.OK},
		{"\x00\x00\x00\x01", api.ErrOrder},
		{"\x05\x00\x00\x05", api.OK},
		{"\x05\x00\x00\x06", api.ErrOrder},
		{"\x05\x00\x00" + big, api.ErrOrder},
		{big + "\x00\x00" + big, api.OK},
		{"\xff\xff\xff\xff\xff\xff\xff\xfe\x00\x00" + big, api.ErrOrder},
		{"\x05\x00\x01\x00\x00\x03", api.OK},
		{"\x05\x00\x01\x00\x00\x04", api.ErrOrder},
		{"\x05\x00\x01\x00\x03\x00", api.OK},
		{"\x05\x00\x01\x00\x03\x01", api.ErrOrder},
		{"\x05\x00\x01\x00\x04\x00", api.ErrOrder},
		{"\x05\x00\x01\x00\x05\x00", api.ErrOrder},
		{"\x05\x00\x01\x05\x00\x00", api.ErrOrder},
		{"\x05\x00\x01\x00" + big + big, api.ErrOrder},
		{big + "\x00\x01" + big + big + big, api.ErrOrder},
		{"\x05\x00\x02\x00\x00\x00\x00\x01", api.OK},
		{"\x05\x00\x02\x00\x00\x00\x00\x02", api.ErrOrder},
		// The later field of a range is how many integers it has: until then, bytes are missing.
		{"\x05\x00\x00", api.ErrShort},
		{"\x05\x00\x01\x00\x05", api.ErrShort},
		{"\x05\x00\x01\x06", api.ErrOrder},
		// More than 32 ranges are told before any of them.
		{"\x00\x00\x20", api.ErrRange},
		{"\x00\x00\x20\x01", api.ErrRange},
		{"\x00\x00\x1f\x01", api.ErrOrder},
		{"\x00\x00\x1f", api.ErrShort},
		{"\x00\x00" + big, api.ErrRange},
		// A greatest number or a delay that is cut short.
		{"", api.ErrShort},
		{"\x40", api.ErrShort},
		{"\x05", api.ErrShort},
		{"\x05\x40", api.ErrShort},
	} {
		for _, kind := range []string{"\x02", "\x03"} {
			b := kind + c.b
			switch {
			case c.e != api.OK:
				expectTakeError(t, b, c.e)
				if c.e != api.ErrShort {
					expectTakeError(t, b+"\x1f\x1f\x1f\x1f", c.e)
				}
			case kind == "\x03":
				expectTakeError(t, b, api.ErrShort)
				expectModel(t, []byte(b+"\x01\x02\x03"))
			default:
				expectModel(t, []byte(b))
			}
			expectModel(t, []byte(b))
		}
	}
	two := frame.Frame{Kind: frame.AckEcn, Ranges: []span.Range{{From: 0, To: 1}, {From: 5, To: 6}}, Delay: 7, Ecn: [3]uint64{1, 2, 3}}
	expectTake(t, "\x03\x40\x05\x40\x07\x40\x01\x40\x00\x40\x03\x40\x00\x40\x01\x40\x02\x40\x03", two)
}

// P8.2: an ID has 1 to 20 bytes, which is told before they are missing; Prior is checked at the end.
func TestTakeId(t *testing.T) {
	token := "0123456789ABCDEF"
	for size := range 256 {
		id := strings.Repeat("x", size)
		b := "\x18\x02\x01" + string([]byte{byte(size)})
		switch {
		case size < 1 || size > 20:
			expectTakeError(t, b+id+token, api.ErrSize)
			expectTakeError(t, b, api.ErrSize)
			expectTakeError(t, "\x18\x01\x02"+b[3:]+id+token, api.ErrSize)
		default:
			want := frame.Frame{Kind: frame.NewId, Seq: 2, Prior: 1, Id: []byte(id), Token: [16]byte([]byte(token))}
			expectTake(t, b+id+token, want)
			expectTake(t, b+id+token+"\x01", want, frame.Frame{Kind: frame.Ping})
			expectTakeError(t, "\x18\x01\x02"+b[3:]+id+token, api.ErrOrder)
			expectTakeError(t, "\x18\x01\x02"+b[3:]+id+token+"\x1f", api.ErrOrder)
			for _, cut := range []int{0, 1, size, size + 1, size + 15} {
				expectTakeError(t, b+(id + token)[:cut], api.ErrShort)
				expectTakeError(t, "\x18\x01\x02"+b[3:]+(id + token)[:cut], api.ErrShort)
			}
		}
	}
	expectTakeError(t, "\x18\x01\x02", api.ErrShort)
	expectTakeError(t, "\x18\x01", api.ErrShort)
	expectTakeError(t, "\x18", api.ErrShort)
}

// P8.2: numbers of streams have a limit of their own.
func TestTakeLimit(t *testing.T) {
	for _, kind := range []string{"\x12", "\x13", "\x16", "\x17"} {
		for _, n := range []uint64{0, 1 << 32, 1<<60 - 1, 1 << 60} {
			expectTake(t, kind+string(style{}.number(n)), frame.Frame{Kind: frame.Kind(kind[0]), Limit: n})
		}
		for _, n := range []uint64{1<<60 + 1, 1 << 61, 1<<62 - 1} {
			expectTakeError(t, kind+string(style{}.number(n)), api.ErrLimit)
			expectTakeError(t, kind+string(style{}.number(n))+"\x1f", api.ErrLimit)
		}
		expectTakeError(t, kind, api.ErrShort)
		expectTakeError(t, kind+big[1:], api.ErrShort)
	}
	for _, kind := range []string{"\x10", "\x14"} {
		expectTake(t, kind+big, frame.Frame{Kind: frame.Kind(kind[0]), Limit: 1<<62 - 1})
	}
}

// P8.2: frames that are cut off anywhere, alone and behind others.
func TestTakeCut(t *testing.T) {
	for _, c := range known {
		for i := 1; i < len(c.b); i++ {
			expectTakeError(t, c.b[:i], api.ErrShort)
			expectTakeError(t, "\x00\x01"+c.b[:i], api.ErrShort)
			expectModel(t, []byte(c.b[:i]))
		}
	}
}

// P8.2: frames whose numbers are not in their shortest encoding, only their kinds are.
func TestTakeWide(t *testing.T) {
	for _, c := range known {
		for _, wide := range []int{2, 4, 8} {
			b := string(modelPut(c.f, finish(c.f, 6, wide)))
			expectTake(t, b, c.f)
			expectTake(t, b+"\x1e", c.f, frame.Frame{Kind: frame.Done})
			for i := 1; i < len(b); i++ {
				expectTakeError(t, b[:i], api.ErrShort)
			}
		}
	}
}

// P8.2: the error of the first frame that has one counts.
func TestTakeFirst(t *testing.T) {
	wrong := []struct {
		b string
		e api.Errno
	}{
		{"\x40\x01", api.ErrForm},
		{"\x1f", api.ErrKind},
		{"\x06\x00\x44\xb1", api.ErrRange},
		{"\x07\x00", api.ErrSize},
		{"\x12" + big, api.ErrLimit},
		{"\x02\x00\x00\x00\x01", api.ErrOrder},
	}
	for _, x := range wrong {
		expectTakeError(t, x.b, x.e)
		for _, y := range wrong {
			expectTakeError(t, x.b+y.b, x.e)
			expectTakeError(t, "\x01"+x.b+"\x01"+y.b, x.e)
		}
	}
}

// P8.2: every padding byte is a frame.
func TestTakePadding(t *testing.T) {
	for _, many := range []int{1, 2, 3, 1200, 5000} {
		l, e := frame.Take(make([]byte, many))
		if e != api.OK || len(l) != many {
			t.Errorf("Take of %d bytes of padding = %d frames, %d", many, len(l), e)
		}
		for _, f := range l {
			if !equal(f, frame.Frame{}) {
				t.Errorf("padding = %+v", f)
			}
		}
	}
}

// P8.2: all packets of three bytes, and all of four and five among those bytes at which something changes.
func TestTakeAll(t *testing.T) {
	for a := range 256 {
		for b := range 256 {
			expectModel(t, []byte{byte(a), byte(b)})
			for c := range 256 {
				if a < 32 {
					expectModel(t, []byte{byte(a), byte(b), byte(c)})
				}
			}
		}
	}
	telling := []byte{0, 1, 2, 3, 20, 21, 31, 32, 64, 65, 255}
	for kind := range byte(32) {
		for n := range 11 * 11 * 11 * 11 {
			b := []byte{kind}
			for range 4 {
				b = append(b, telling[n%11])
				n /= 11
			}
			expectModel(t, b[:4])
			expectModel(t, b)
		}
	}
}

// P8.2: frames of all kinds, in all styles, of which some bytes are changed, removed, inserted or cut off.
func TestTakeSpoilt(t *testing.T) {
	for n := range 40000 {
		s := newSome(n)
		var b []byte
		for range 1 + s.IntN(3) {
			f := s.frame(s.kind())
			added := []byte{0, 2, 4, 6}[s.IntN(4)]
			b = append(b, modelPut(f, finish(f, added, []int{1, 1, 2, 4, 8}[s.IntN(5)]))...)
		}
		expectModel(t, b)
		for range 1 + s.IntN(3) {
			b = spoilt(s, b)
			expectModel(t, b)
		}
	}
}

func spoilt(s some, b []byte) []byte {
	if len(b) == 0 {
		return b
	}
	// What matters most stands at the beginning.
	at := s.IntN(min(len(b), []int{4, 12, 5000}[s.IntN(3)]))
	b = slices.Clone(b)
	switch s.IntN(6) {
	case 0:
		return b[:at]
	case 1:
		return slices.Delete(b, at, at+1)
	case 2:
		return slices.Insert(b, at, byte(s.IntN(256)))
	case 3:
		b[at]++
	case 4:
		b[at]--
	default:
		b[at] = byte(s.IntN(256))
	}
	return b
}

// P8.2: packets of small numbers, which are frames more often than others are.
func TestTakeSmall(t *testing.T) {
	for n := range 100000 {
		s := newSome(n)
		b := s.bytes(1, 30)
		most := byte(1 + s.IntN(40))
		for i := range b {
			if s.IntN(8) > 0 {
				b[i] %= most
			}
		}
		b[0] %= 32
		expectModel(t, b)
	}
}

// P8.1, P8.2: what is taken can be put again, and is the same when it is taken once more.
func TestTakeAgain(t *testing.T) {
	for n := range 20000 {
		s := newSome(n)
		b := s.bytes(1, 30)
		for i := range b {
			b[i] %= byte(1 + s.IntN(64))
		}
		l, e := frame.Take(b)
		if e != api.OK {
			continue
		}
		again, e := frame.All(l)
		if e != api.OK {
			t.Errorf("All of what Take returns for % x = %d", b, e)
		}
		expectTake(t, string(again), l...)
		for _, f := range l {
			if !frame.Same(f, f) {
				t.Errorf("%+v is not the same as itself", f)
			}
		}
	}
}
