package frame_test

import (
	"bytes"
	"slices"
	"sync"
	"testing"

	"binnacle/api"
	"binnacle/frame"
	"binnacle/span"
)

// roomy is bytes with spare room that is filled.
func roomy(b string) []byte {
	l := make([]byte, len(b)+100)
	copy(l, b)
	for i := len(b); i < len(l); i++ {
		l[i] = 0xee
	}
	return l[:len(b)]
}

func expectRoom(t *testing.T, what string, b []byte, want string) {
	t.Helper()
	if string(b) != want || !bytes.Equal(b[len(b):cap(b)], bytes.Repeat([]byte{0xee}, cap(b)-len(b))) {
		t.Errorf("%s has changed its argument: % x", what, b[:cap(b)])
	}
}

// scribble writes over bytes and their spare room.
func scribble(b []byte) {
	b = b[:cap(b)]
	for i := range b {
		b[i] = 0xdd
	}
}

// P8.1, R6: what Put and All are given stays, its spare room too; what they return is new.
func TestPutKeeps(t *testing.T) {
	for _, c := range known {
		f := c.f
		f.Data, f.Id = roomy(string(c.f.Data)), roomy(string(c.f.Id))
		f.Ranges = append(slices.Clone(c.f.Ranges), span.Range{From: 1, To: 1})[:len(c.f.Ranges)]
		before := roomy("before")
		b, e := frame.Put(before, f)
		all, g := frame.All([]frame.Frame{f, f})
		if e != api.OK || g != api.OK {
			t.Errorf("Put, All of %+v = %d, %d", f, e, g)
		}
		scribble(b)
		scribble(all)
		expectRoom(t, "Put", before, "before")
		expectRoom(t, "Put", f.Data, string(c.f.Data))
		expectRoom(t, "Put", f.Id, string(c.f.Id))
		if !equal(f, c.f) || f.Ranges[:len(f.Ranges)+1][len(f.Ranges)] != (span.Range{From: 1, To: 1}) {
			t.Errorf("Put has changed %+v to %+v", c.f, f)
		}

		b, _ = frame.Put(before, f)
		all, _ = frame.All([]frame.Frame{f, f})
		scribble(before)
		scribble(f.Data)
		scribble(f.Id)
		if string(b) != "before"+c.b || string(all) != c.b+c.b {
			t.Errorf("what Put and All return has changed with their arguments: % x, % x", b, all)
		}
		expectPut(t, c.f, c.b)
	}
	// A frame that is refused leaves the bytes as they were.
	before := roomy("before")
	frame.Put(before, frame.Frame{Kind: frame.RetireId, Seq: top})
	frame.Put(before, frame.Frame{Kind: frame.Ack})
	expectRoom(t, "a Put that fails", before, "before")
}

// P8.1, R6: frames that All is given stay, also behind the last one.
func TestAllKeeps(t *testing.T) {
	l := []frame.Frame{full(frame.Ping), full(frame.Crypto), full(frame.Ack)}
	frame.All(l[:2])
	for i, k := range []frame.Kind{frame.Ping, frame.Crypto, frame.Ack} {
		if !equal(l[i], full(k)) {
			t.Errorf("All has changed frame %d to %+v", i, l[i])
		}
	}
}

// P8.2, R6: what Take is given stays; what it returns is new, and no two lists of it share memory.
func TestTakeKeeps(t *testing.T) {
	var all string
	var want []frame.Frame
	for range 2 {
		for _, c := range known {
			all += c.b
			want = append(want, c.f)
		}
	}
	all += "\x08\x04last"
	want = append(want, frame.Frame{Kind: frame.Stream, Stream: 4, Data: []byte("last")})
	b := roomy(all)
	one, e := frame.Take(b)
	two, g := frame.Take(b)
	expectRoom(t, "Take", b, all)
	scribble(b)
	if e != api.OK || g != api.OK || !slices.EqualFunc(one, want, equal) {
		t.Errorf("what Take returns has changed with its argument: %+v, %d, %d", one, e, g)
	}
	for i := range one {
		scribble(one[i].Data)
		scribble(one[i].Id)
		ranges := one[i].Ranges[:cap(one[i].Ranges)]
		for j := range ranges {
			ranges[j] = span.Range{From: 77, To: 78}
		}
		if !slices.EqualFunc(one[i+1:], want[i+1:], equal) {
			t.Fatalf("frames change with frame %d", i)
		}
		if len(want[i].Data) > 0 && len(want[i].Id) > 0 {
			t.Fatal("a frame with two lists of bytes")
		}
	}
	if !slices.EqualFunc(two, want, equal) {
		t.Errorf("frames change with those of another Take: %+v", two)
	}
}

// P8.2, R6: what is compared or asked stays.
func TestAskKeeps(t *testing.T) {
	for n := range 256 {
		f, other := full(frame.Kind(n)), full(frame.Kind(n))
		frame.Same(f, other)
		frame.Same(f, frame.Frame{})
		f.Eliciting()
		f.Probing()
		f.Early()
		if !equal(f, full(frame.Kind(n))) || !equal(other, full(frame.Kind(n))) {
			t.Errorf("kind %d: a question has changed a frame", n)
		}
	}
}

// P8.1, P8.2, R8: the same again, whatever else was done in between, by many at once.
func TestSameAgain(t *testing.T) {
	var group sync.WaitGroup
	for range 8 {
		group.Go(func() {
			for range 20 {
				frame.Take([]byte("\x06\x01\x05ab"))
				frame.Put(nil, frame.Frame{Kind: 9})
				for _, c := range known {
					expectPut(t, c.f, c.b)
					expectTake(t, c.b, c.f)
				}
			}
		})
	}
	group.Wait()
}
