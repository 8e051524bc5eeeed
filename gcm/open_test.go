package gcm_test

import (
	"bytes"
	"testing"

	"binnacle/aes"
	"binnacle/api"
	"binnacle/gcm"
)

// P6.2: sealed bytes that are shorter than a tag, whatever they are, and whatever the rest is.
func TestShort(t *testing.T) {
	s := gcm.New(aes.New(), someKey(1))
	n := someNonce(2)
	whole := s.Seal(n, some(3, 20), nil)
	longer := s.Seal(n, some(3, 20), some(4, 20))
	for size := range 16 {
		for _, open := range [][]byte{nil, some(3, 20), some(5, 16)} {
			for _, b := range [][]byte{whole[:size], whole[16-size:], longer[:size], make([]byte, size)} {
				back, e := s.Open(n, open, b)
				expectError(t, "Open of too few bytes", back, e, api.ErrShort)
				back, e = s.Open(gcm.Nonce{}, open, b)
				expectError(t, "Open of too few bytes, with another nonce", back, e, api.ErrShort)
			}
		}
	}
	back, e := s.Open(n, nil, nil)
	expectError(t, "Open of nil", back, e, api.ErrShort)
	back, e = s.Open(n, some(3, 20), make([]byte, 16))
	expectError(t, "Open of sixteen bytes", back, e, api.ErrOpen)
	back, e = s.Open(n, some(3, 20), whole)
	expectPlain(t, "Open of a tag", back, e, nil)
}

// P6.2: each bit of the tag, of the ciphertext, of the open bytes, of the nonce and of the key.
func TestWrongBits(t *testing.T) {
	x := aes.New()
	for _, open := range []int{0, 1, 16, 20, 33} {
		for _, plain := range []int{0, 1, 15, 16, 17, 40} {
			key, nonce, said := someKey(open), someNonce(plain), some(1, open)
			s := gcm.New(x, key)
			b := s.Seal(nonce, said, some(2, plain))
			for n := range 8 * len(b) {
				back, e := s.Open(nonce, said, flipped(b, n))
				expectError(t, "Open with another sealed bit", back, e, api.ErrOpen)
			}
			for n := range 8 * open {
				back, e := s.Open(nonce, flipped(said, n), b)
				expectError(t, "Open with another open bit", back, e, api.ErrOpen)
			}
			for n := range 96 {
				back, e := s.Open(gcm.Nonce(flipped(nonce[:], n)), said, b)
				expectError(t, "Open with another nonce", back, e, api.ErrOpen)
			}
			for n := range 128 {
				back, e := gcm.New(x, aes.Block(flipped(key[:], n))).Open(nonce, said, b)
				expectError(t, "Open with another key", back, e, api.ErrOpen)
			}
			back, e := s.Open(nonce, said, b)
			expectPlain(t, "Open of the right ones", back, e, some(2, plain))
		}
	}
}

// P6.2: two bits that differ, so that sums of the bytes' differences vanish.
func TestWrongPairs(t *testing.T) {
	s := gcm.New(aes.New(), someKey(1))
	n := someNonce(2)
	b := s.Seal(n, some(3, 20), some(4, 20))
	for i := 20 * 8; i < 36*8; i++ {
		for _, j := range []int{8, 32, 64, 120} {
			back, e := s.Open(n, some(3, 20), flipped(flipped(b, i), 160+(i-160+j)%128))
			expectError(t, "Open with two other bits of the tag", back, e, api.ErrOpen)
		}
	}
	for i := range 20 {
		swapped := bytes.Clone(b)
		swapped[i], swapped[i+16] = swapped[i+16], swapped[i]
		if bytes.Equal(swapped, b) {
			continue
		}
		back, e := s.Open(n, some(3, 20), swapped)
		expectError(t, "Open with two bytes swapped", back, e, api.ErrOpen)
	}
}

// P6.2: sealed bytes and open ones of another length: cut off, put before or behind, or moved from one to the other.
func TestWrongLengths(t *testing.T) {
	s := gcm.New(aes.New(), someKey(1))
	n := someNonce(2)
	for _, open := range edges[:14] {
		for _, plain := range edges[:14] {
			said := some(3, open)
			b := s.Seal(n, said, some(4, plain))
			for _, wrong := range [][2][]byte{
				{said, append(bytes.Clone(b), 0)},
				{said, append([]byte{0}, b...)},
				{said, append(make([]byte, 16), b...)},
				{said, append(bytes.Clone(b), make([]byte, 16)...)},
				{said, append(bytes.Clone(b), b[plain:]...)},
				{append(bytes.Clone(said), 0), b},
				{append([]byte{0}, said...), b},
				{append(bytes.Clone(said), make([]byte, 16)...), b},
				{append(make([]byte, 16), said...), b},
				{append(bytes.Clone(said), b[:plain]...), b[plain:]},
				{nil, append(bytes.Clone(said), b...)},
			} {
				if bytes.Equal(wrong[0], said) && bytes.Equal(wrong[1], b) {
					continue
				}
				back, e := s.Open(n, wrong[0], wrong[1])
				expectError(t, lengths("Open", wrong[0], wrong[1]), back, e, api.ErrOpen)
			}
			if plain > 0 {
				back, e := s.Open(n, said, b[1:])
				expectError(t, "Open without the first byte", back, e, api.ErrOpen)
				back, e = s.Open(n, said, b[:len(b)-1])
				expectError(t, "Open without the last byte", back, e, api.ErrOpen)
				back, e = s.Open(n, said, b[plain:])
				expectError(t, "Open of the tag only", back, e, api.ErrOpen)
			}
			if open > 0 {
				back, e := s.Open(n, said[1:], b)
				expectError(t, "Open without the first open byte", back, e, api.ErrOpen)
				back, e = s.Open(n, said[:open-1], b)
				expectError(t, "Open without the last open byte", back, e, api.ErrOpen)
				back, e = s.Open(n, nil, b)
				expectError(t, "Open without open bytes", back, e, api.ErrOpen)
			}
		}
	}
}

// P6.2: the tag of other bytes, and bytes that nobody sealed.
func TestWrongTags(t *testing.T) {
	s := gcm.New(aes.New(), someKey(1))
	n := someNonce(2)
	one, two := s.Seal(n, some(3, 20), some(4, 20)), s.Seal(n, some(3, 20), some(5, 20))
	back, e := s.Open(n, some(3, 20), append(bytes.Clone(one[:20]), two[20:]...))
	expectError(t, "Open with the tag of others", back, e, api.ErrOpen)
	for size := 16; size < 100; size++ {
		back, e = s.Open(n, nil, some(size, size))
		expectError(t, "Open of some bytes", back, e, api.ErrOpen)
		back, e = s.Open(n, some(3, 20), make([]byte, size))
		expectError(t, "Open of zero bytes", back, e, api.ErrOpen)
	}
}
