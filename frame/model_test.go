package frame_test

import (
	"bytes"
	"encoding/binary"
	"math"
	"math/rand/v2"
	"slices"
	"testing"

	"binnacle/api"
	"binnacle/frame"
	"binnacle/span"
)

// top is the greatest integer; it has no encoding.
const top = math.MaxUint64

// kinds are all kinds that exist, with their numbers.
var kinds = map[frame.Kind]byte{
	frame.Padding: 0x00, frame.Ping: 0x01, frame.Ack: 0x02, frame.AckEcn: 0x03, frame.Reset: 0x04, frame.Stop: 0x05,
	frame.Crypto: 0x06, frame.NewToken: 0x07, frame.Stream: 0x08, frame.MaxData: 0x10, frame.MaxStreamData: 0x11,
	frame.MaxBidi: 0x12, frame.MaxUni: 0x13, frame.DataBlocked: 0x14, frame.StreamBlocked: 0x15, frame.BidiBlocked: 0x16,
	frame.UniBlocked: 0x17, frame.NewId: 0x18, frame.RetireId: 0x19, frame.Challenge: 0x1a, frame.Response: 0x1b,
	frame.Close: 0x1c, frame.CloseApp: 0x1d, frame.Done: 0x1e,
}

// fieldsOf is the chapter's list of a kind's fields, a letter for each:
// s Stream, o Offset, l Limit, m Limit of streams, c Code, q Seq, p Prior, g Delay,
// d Data of 1200 bytes at most, t of a token, y of a reason, r up to the end of the packet,
// a the greatest number of Ranges, n the number of further ranges, h the highest range, f the further ranges,
// e Ecn, i Id, k Token, w Word.
func fieldsOf(number uint64) (string, bool) {
	switch number {
	case 0x00, 0x01, 0x1e:
		return "", true
	case 0x02:
		return "agnhf", true
	case 0x03:
		return "agnhfe", true
	case 0x04:
		return "scl", true
	case 0x05:
		return "sc", true
	case 0x06:
		return "od", true
	case 0x07:
		return "t", true
	case 0x08, 0x09:
		return "sr", true
	case 0x0a, 0x0b:
		return "sd", true
	case 0x0c, 0x0d:
		return "sor", true
	case 0x0e, 0x0f:
		return "sod", true
	case 0x10, 0x14:
		return "l", true
	case 0x11, 0x15:
		return "sl", true
	case 0x12, 0x13, 0x16, 0x17:
		return "m", true
	case 0x18:
		return "qpik", true
	case 0x19:
		return "q", true
	case 0x1a, 0x1b:
		return "w", true
	case 0x1c:
		return "cly", true
	case 0x1d:
		return "cy", true
	}
	return "", false
}

// model decodes frames as the chapter says it, field by field.
type model struct {
	b   []byte
	f   frame.Frame
	e   api.Errno
	top uint64 // the next range is below it
	few int    // further ranges
}

func (m *model) bad(is bool, e api.Errno) {
	if is && m.e == api.OK {
		m.e = e
	}
}

func (m *model) bytes(many int) []byte {
	m.bad(len(m.b) < many, api.ErrShort)
	if m.e != api.OK {
		return make([]byte, many)
	}
	l := slices.Clone(m.b[:many])
	m.b = m.b[many:]
	return l
}

// number answers how many bytes the number has, too.
func (m *model) number() (uint64, int) {
	if len(m.b) == 0 {
		m.bad(true, api.ErrShort)
		return 0, 0
	}
	size := []int{1, 2, 4, 8}[m.b[0]/64]
	all := append(make([]byte, 8-size), m.bytes(size)...)
	all[8-size] &= 63
	n := binary.BigEndian.Uint64(all)
	if m.e != api.OK {
		return 0, 0
	}
	return n, size
}

func (m *model) int() uint64 {
	n, _ := m.number()
	return n
}

func (m *model) data(most int) []byte {
	n := m.int()
	m.bad(n > uint64(most), api.ErrRange)
	if m.e != api.OK {
		return nil
	}
	return m.bytes(int(n))
}

// span takes a range of so many integers that lie below m.top, with some missing above it.
func (m *model) span(missing, many uint64) {
	m.bad(missing > m.top || many > m.top-missing, api.ErrOrder)
	if m.e != api.OK {
		return
	}
	to := m.top - missing
	m.f.Ranges = append([]span.Range{{From: to - many, To: to}}, m.f.Ranges...)
	m.top = to - many
}

func (m *model) place() {
	m.bad(m.f.Offset+uint64(len(m.f.Data)) > 1<<62-1, api.ErrRange)
}

func (m *model) field(letter rune) {
	f := &m.f
	switch letter {
	case 's':
		f.Stream = m.int()
	case 'o':
		f.Offset = m.int()
	case 'l':
		f.Limit = m.int()
	case 'm':
		f.Limit = m.int()
		m.bad(f.Limit > 1<<60, api.ErrLimit)
	case 'c':
		f.Code = m.int()
	case 'q':
		f.Seq = m.int()
	case 'p':
		f.Prior = m.int()
	case 'g':
		f.Delay = m.int()
	case 'd':
		f.Data = m.data(1200)
		m.place()
	case 'r':
		m.bad(len(m.b) > 1200, api.ErrRange)
		f.Data = m.bytes(len(m.b))
		m.place()
	case 't':
		f.Data = m.data(64)
		m.bad(len(f.Data) == 0, api.ErrSize)
	case 'y':
		f.Data = m.data(64)
	case 'a':
		m.top = m.int() + 1
	case 'n':
		n := m.int()
		m.bad(n > 31, api.ErrRange)
		m.few = int(n)
	case 'h':
		m.span(0, m.int()+1)
	case 'f':
		for i := 0; i < m.few && m.e == api.OK; i++ {
			missing := m.int() + 1
			m.span(missing, m.int()+1)
		}
	case 'e':
		for i := range f.Ecn {
			f.Ecn[i] = m.int()
		}
	case 'i':
		size := int(m.bytes(1)[0])
		m.bad(size < 1 || size > 20, api.ErrSize)
		f.Id = m.bytes(size)
	case 'k':
		f.Token = [16]byte(m.bytes(16))
		m.bad(f.Prior > f.Seq, api.ErrOrder)
	case 'w':
		f.Word = [8]byte(m.bytes(8))
	}
}

// one decodes a frame.
func (m *model) one() {
	n, size := m.number()
	m.bad(size > 1 && n < 64 || size > 2 && n < 1<<14 || size > 4 && n < 1<<30, api.ErrForm)
	fields, is := fieldsOf(n)
	m.bad(!is, api.ErrKind)
	m.f = frame.Frame{Kind: frame.Kind(n)}
	if n >= 8 && n <= 15 {
		m.f = frame.Frame{Kind: frame.Stream, Fin: n%2 == 1}
	}
	for _, letter := range fields {
		if m.e != api.OK {
			return
		}
		m.field(letter)
	}
}

// modelTake is Take of the chapter.
func modelTake(b []byte) ([]frame.Frame, api.Errno) {
	m := &model{b: b}
	var l []frame.Frame
	for m.e == api.OK && len(m.b) > 0 {
		m.one()
		l = append(l, m.f)
	}
	m.bad(len(l) == 0, api.ErrFrame)
	if m.e != api.OK {
		return nil, m.e
	}
	return l, api.OK
}

// style is how a frame is encoded: what is added to a Stream frame's kind, and how many bytes a number has at least.
type style struct {
	added byte
	wide  int
}

func (s style) number(n uint64) []byte {
	for i, size := range []int{1, 2, 4, 8} {
		if size >= s.wide && n < 1<<(8*size-2) {
			all := binary.BigEndian.AppendUint64(nil, n)[8-size:]
			all[0] |= byte(i << 6)
			return all
		}
	}
	panic("a number without an encoding")
}

// modelPut is the encoding of a frame that has no error, in a style.
func modelPut(f frame.Frame, s style) []byte {
	number := kinds[f.Kind]
	if f.Kind == frame.Stream {
		number += s.added
	}
	all := []byte{number}
	ints := func(l ...uint64) {
		for _, n := range l {
			all = append(all, s.number(n)...)
		}
	}
	fields, _ := fieldsOf(uint64(number))
	for _, letter := range fields {
		switch letter {
		case 's':
			ints(f.Stream)
		case 'o':
			ints(f.Offset)
		case 'l', 'm':
			ints(f.Limit)
		case 'c':
			ints(f.Code)
		case 'q':
			ints(f.Seq)
		case 'p':
			ints(f.Prior)
		case 'g':
			ints(f.Delay)
		case 'd', 't', 'y':
			ints(uint64(len(f.Data)))
			all = append(all, f.Data...)
		case 'r':
			all = append(all, f.Data...)
		case 'a':
			ints(f.Ranges[len(f.Ranges)-1].To - 1)
		case 'n':
			ints(uint64(len(f.Ranges)) - 1)
		case 'h':
			x := f.Ranges[len(f.Ranges)-1]
			ints(x.To - 1 - x.From)
		case 'f':
			for i := len(f.Ranges) - 2; i >= 0; i-- {
				x := f.Ranges[i]
				ints(f.Ranges[i+1].From-x.To-1, x.To-1-x.From)
			}
		case 'e':
			ints(f.Ecn[:]...)
		case 'i':
			all = append(all, byte(len(f.Id)))
			all = append(all, f.Id...)
		case 'k':
			all = append(all, f.Token[:]...)
		case 'w':
			all = append(all, f.Word[:]...)
		}
	}
	return all
}

// some returns numbers and bytes that hang on a number.
type some struct{ *rand.Rand }

func newSome(n int) some {
	return some{rand.New(rand.NewPCG(uint64(n), 8))}
}

// int is a number of any length of encoding, often near the end of one.
func (s some) int() uint64 {
	most := uint64(1)<<[]int{2, 6, 14, 30, 62}[s.IntN(5)] - 1
	if s.IntN(3) == 0 {
		return most - s.Uint64N(2)
	}
	return s.Uint64N(most + 1)
}

func (s some) bytes(least, most int) []byte {
	l := make([]byte, least+s.IntN(most-least+1))
	for i := range l {
		l[i] = byte(s.Uint32())
	}
	return l
}

// ranges is from one range up to 32, as far up as they reach.
func (s some) ranges() []span.Range {
	var l []span.Range
	from := s.int()
	for range 1 + s.IntN(32) {
		to := from + 1 + s.int()>>s.IntN(62)
		if to > 1<<62 {
			break
		}
		l = append(l, span.Range{From: from, To: to})
		from = to + 1 + s.int()>>s.IntN(62)
	}
	if len(l) == 0 {
		return []span.Range{{From: 1<<62 - 1, To: 1 << 62}}
	}
	return l
}

// frame is a frame that has no error, with a value in each field that its kind has.
func (s some) frame(k frame.Kind) frame.Frame {
	f := frame.Frame{Kind: k}
	fields, _ := fieldsOf(uint64(kinds[k]))
	if k == frame.Stream {
		fields, f.Fin = "sod", s.IntN(2) == 0
	}
	for _, letter := range fields {
		switch letter {
		case 's':
			f.Stream = s.int()
		case 'o':
			f.Offset = s.int()
		case 'l':
			f.Limit = s.int()
		case 'm':
			f.Limit = min(s.int(), 1<<60)
		case 'c':
			f.Code = s.int()
		case 'q':
			f.Seq = s.int()
		case 'p':
			f.Prior = s.Uint64N(f.Seq + 1)
		case 'g':
			f.Delay = s.int()
		case 'd':
			f.Data = s.bytes(0, []int{5, 70, 1200}[s.IntN(3)])
			f.Offset = min(f.Offset, 1<<62-1-uint64(len(f.Data)))
		case 't':
			f.Data = s.bytes(1, 64)
		case 'y':
			f.Data = s.bytes(0, 64)
		case 'a':
			f.Ranges = s.ranges()
		case 'e':
			f.Ecn = [3]uint64{s.int(), s.int(), s.int()}
		case 'i':
			f.Id = s.bytes(1, 20)
		case 'k':
			f.Token = [16]byte(s.bytes(16, 16))
		case 'w':
			f.Word = [8]byte(s.bytes(8, 8))
		}
	}
	return f
}

// kind is any of the kinds.
func (s some) kind() frame.Kind {
	l := []frame.Kind{}
	for k := range kinds {
		l = append(l, k)
	}
	slices.Sort(l)
	return l[s.IntN(len(l))]
}

// equal holds frames against each other without Same.
func equal(a, b frame.Frame) bool {
	return bytes.Equal(a.Data, b.Data) && bytes.Equal(a.Id, b.Id) && slices.Equal(a.Ranges, b.Ranges) &&
		a.Kind == b.Kind && a.Stream == b.Stream && a.Offset == b.Offset && a.Limit == b.Limit && a.Code == b.Code &&
		a.Fin == b.Fin && a.Delay == b.Delay && a.Ecn == b.Ecn && a.Seq == b.Seq && a.Prior == b.Prior &&
		a.Token == b.Token && a.Word == b.Word
}

func expectPut(t *testing.T, f frame.Frame, want string) {
	t.Helper()
	b, e := frame.Put(nil, f)
	if e != api.OK || string(b) != want {
		t.Errorf("Put of %+v = % x, %d, want % x", f, b, e, want)
	}
}

func expectPutError(t *testing.T, f frame.Frame, want api.Errno) {
	t.Helper()
	b, e := frame.Put([]byte("before"), f)
	if e != want || len(b) != 0 {
		t.Errorf("Put of %+v = % x, %d, want %d", f, b, e, want)
	}
}

func expectTake(t *testing.T, b string, want ...frame.Frame) {
	t.Helper()
	l, e := frame.Take([]byte(b))
	if e != api.OK || !slices.EqualFunc(l, want, equal) {
		t.Errorf("Take of % x = %+v, %d, want %+v", b, l, e, want)
	}
}

func expectTakeError(t *testing.T, b string, want api.Errno) {
	t.Helper()
	l, e := frame.Take([]byte(b))
	if e != want || len(l) != 0 {
		t.Errorf("Take of % x = %+v, %d, want %d", b, l, e, want)
	}
}

// expectModel holds Take against the model.
func expectModel(t *testing.T, b []byte) {
	t.Helper()
	want, e := modelTake(b)
	if e != api.OK {
		expectTakeError(t, string(b), e)
		return
	}
	expectTake(t, string(b), want...)
}
