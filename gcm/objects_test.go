package gcm_test

import (
	"bytes"
	"sync"
	"testing"

	"binnacle/aes"
	"binnacle/api"
	"binnacle/gcm"
)

// P6.1: no tables make no Sealer.
func TestNoTables(t *testing.T) {
	var x *aes.Tables
	for n := range 100 {
		if gcm.New(nil, someKey(n)) != nil || gcm.New(x, aes.Block{}) != nil {
			t.Error("New makes a Sealer without tables")
		}
	}
	if gcm.New(aes.New(), aes.Block{}) == nil || gcm.New(new(aes.Tables), aes.Block{}) == nil {
		t.Error("New makes no Sealer with tables")
	}
}

// P6.1, P6.2, R7: a nil Sealer seals and opens nothing; its error comes before the others.
func TestNil(t *testing.T) {
	var none *gcm.Sealer
	s := gcm.New(aes.New(), someKey(1))
	for _, nobody := range []*gcm.Sealer{none, gcm.New(nil, someKey(1))} {
		for size := range 50 {
			n, open := someNonce(size), some(size, 49-size)
			if b := nobody.Seal(n, open, some(2, size)); len(b) != 0 || cap(b) != 0 {
				t.Errorf("a nil Sealer seals %x", b)
			}
			back, e := nobody.Open(n, open, some(2, size))
			expectError(t, "Open of a nil Sealer", back, e, api.ErrNil)
			back, e = nobody.Open(n, open, s.Seal(n, open, some(2, size)))
			expectError(t, "Open of a nil Sealer", back, e, api.ErrNil)
		}
		if b := nobody.Seal(gcm.Nonce{}, nil, nil); len(b) != 0 {
			t.Errorf("a nil Sealer seals %x", b)
		}
		back, e := nobody.Open(gcm.Nonce{}, nil, nil)
		expectError(t, "Open of a nil Sealer", back, e, api.ErrNil)
	}
}

// P1: a Sealer that New has not made does not panic.
func TestUnmade(t *testing.T) {
	var s gcm.Sealer
	for size := range 50 {
		s.Seal(someNonce(1), some(2, size), some(3, size))
		s.Open(someNonce(1), some(2, size), some(3, size))
	}
}

// within returns bytes with others before them and in their spare room, and all of them.
func within(b []byte) (part, whole []byte) {
	whole = bytes.Repeat([]byte{0xa5}, len(b)+80)
	copy(whole[40:], b)
	return whole[40 : 40+len(b)], whole
}

// P6.1, P6.2, R6: what is passed in stays as it was, and so do the bytes around it.
func TestArgumentsKept(t *testing.T) {
	s := gcm.New(aes.New(), someKey(1))
	for _, size := range edges {
		open, all := within(some(2, size))
		plain, plainAll := within(some(3, size))
		n := someNonce(4)
		text, textAll := within(s.Seal(n, open, plain))
		wrong, wrongAll := within(flipped(text, 0))
		before := [][]byte{bytes.Clone(all), bytes.Clone(plainAll), bytes.Clone(textAll), bytes.Clone(wrongAll)}
		expectBytes(t, "Seal", s.Seal(n, open, plain), text)
		back, e := s.Open(n, open, text)
		expectPlain(t, "Open", back, e, plain)
		back, e = s.Open(n, open, wrong)
		expectError(t, "Open", back, e, api.ErrOpen)
		back, e = s.Open(n, open, text[:10])
		expectError(t, "Open", back, e, api.ErrShort)
		for i, after := range [][]byte{all, plainAll, textAll, wrongAll} {
			expectBytes(t, "what was passed in", after, before[i])
		}
		if n != someNonce(4) {
			t.Error("the nonce is another one")
		}
	}
}

// fill writes over bytes and their spare room.
func fill(b []byte, with byte) {
	b = b[:cap(b)]
	for i := range b {
		b[i] = with
	}
}

// P6.1, P6.2, R6: results share nothing with arguments, nor with other results, nor with the Sealer.
func TestResultsNew(t *testing.T) {
	s := gcm.New(aes.New(), someKey(1))
	n := someNonce(2)
	for _, size := range edges {
		open, plain := some(3, size), some(4, size)
		want := sealed(t, someKey(1), n, open, plain)
		one, two := s.Seal(n, open, plain), s.Seal(n, open, plain)
		back, e := s.Open(n, open, two)
		again, f := s.Open(n, open, two)
		fill(one, 0x11)
		expectBytes(t, "one, when another is written over", two, want)
		expectBytes(t, "open, when a result is written over", open, some(3, size))
		expectBytes(t, "plain, when a result is written over", plain, some(4, size))
		fill(back, 0x22)
		expectPlain(t, "one, when another is written over", again, f, some(4, size))
		expectBytes(t, "sealed, when what was opened is written over", two, want)
		fill(two, 0x33)
		fill(open, 0x44)
		fill(plain, 0x55)
		expectPlain(t, "what was opened, when arguments are written over", again, e, some(4, size))
		expectBytes(t, "Seal, when arguments are written over", s.Seal(n, some(3, size), some(4, size)), want)
	}
}

// P6.1, P6.2, R6: the key and the nonce are not kept, and what is open may be what is plain.
func TestKeyNotKept(t *testing.T) {
	x := aes.New()
	key, n := someKey(1), someNonce(2)
	s := gcm.New(x, key)
	key[0]++
	both := some(3, 40)
	want := sealed(t, someKey(1), n, both, both)
	expectBytes(t, "Seal, when the key is written over", s.Seal(n, both, both), want)
	back, e := s.Open(n, both[:32], sealed(t, someKey(1), n, both[:32], both[8:]))
	expectPlain(t, "Open, when the key is written over", back, e, both[8:])
	b := s.Seal(n, both, both)
	n[11]++
	expectBytes(t, "what was sealed, when the nonce is written over", b, want)
	if gcm.New(x, key) == gcm.New(x, key) {
		t.Error("New makes the same Sealer twice")
	}
}

// P6.1, P6.2, R8: Sealers are used again and again and in turn, and which tables they are of does not matter.
func TestAgainAndAgain(t *testing.T) {
	x := aes.New()
	var all []*gcm.Sealer
	for n := range 10 {
		all = append(all, gcm.New(x, someKey(n)))
	}
	for range 3 {
		for n, s := range all {
			for _, size := range []int{0, 1, 16, 33} {
				nonce, open, plain := someNonce(size), some(n, size), some(n+1, 40-size)
				want := sealed(t, someKey(n), nonce, open, plain)
				expectBytes(t, "Seal", s.Seal(nonce, open, plain), want)
				back, e := s.Open(nonce, open, flipped(want, 5))
				expectError(t, "Open of wrong bytes", back, e, api.ErrOpen)
				back, e = s.Open(nonce, open, want[:15])
				expectError(t, "Open of few bytes", back, e, api.ErrShort)
				back, e = s.Open(nonce, open, want)
				expectPlain(t, "Open", back, e, plain)
				expectBytes(t, "Seal by other tables", gcm.New(aes.New(), someKey(n)).Seal(nonce, open, plain), want)
			}
		}
	}
}

// P6.1, P6.2: what one Sealer seals, another one of the same key opens, and none of another key.
func TestOthers(t *testing.T) {
	x := aes.New()
	for n := range 50 {
		b := gcm.New(x, someKey(n)).Seal(someNonce(n), some(1, 20), some(n, 20))
		back, e := gcm.New(aes.New(), someKey(n)).Open(someNonce(n), some(1, 20), b)
		expectPlain(t, "Open by another Sealer", back, e, some(n, 20))
		back, e = gcm.New(x, someKey(n+1)).Open(someNonce(n), some(1, 20), b)
		expectError(t, "Open by another key", back, e, api.ErrOpen)
	}
}

// P6.1: blocks are encrypted with a key of the tables that were passed in.
func TestTables(t *testing.T) {
	x, other := aes.New(), aes.New()
	s := gcm.New(x, someKey(1))
	before := x.Turned()
	b := s.Seal(someNonce(1), nil, some(1, 100))
	if x.Turned() < before+8 {
		t.Errorf("Turned = %d after %d and eight blocks", x.Turned(), before)
	}
	before = x.Turned()
	s.Open(someNonce(1), nil, b)
	if x.Turned() < before+8 {
		t.Errorf("Turned = %d after %d and eight blocks", x.Turned(), before)
	}
	if other.Turned() != 0 {
		t.Error("other tables have encrypted something")
	}
}

// P6.1, P6.2: many may use the same Sealer, and the same new tables, at once.
func TestAtOnce(t *testing.T) {
	for range 10 {
		x := aes.New()
		shared := gcm.New(x, someKey(100))
		var wait sync.WaitGroup
		for n := range 8 {
			wait.Go(func() {
				own := gcm.New(x, someKey(n))
				for m := range 20 {
					nonce, open, plain := someNonce(n), some(m, m), some(n, 3*m)
					expectBytes(t, "Seal", own.Seal(nonce, open, plain), sealed(t, someKey(n), nonce, open, plain))
					b := shared.Seal(nonce, open, plain)
					expectBytes(t, "Seal by one for all", b, sealed(t, someKey(100), nonce, open, plain))
					back, e := shared.Open(nonce, open, b)
					expectPlain(t, "Open by one for all", back, e, plain)
				}
			})
		}
		wait.Wait()
	}
}
