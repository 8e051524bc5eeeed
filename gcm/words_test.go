package gcm_test

import (
	"testing"

	"binnacle/aes"
	"binnacle/gcm"
)

// xor returns the XOR of two blocks.
func xor(a, b aes.Block) aes.Block {
	for i := range a {
		a[i] ^= b[i]
	}
	return a
}

// product multiplies two polynomials as they stand, and divides by x^128 + x^7 + x^2 + x + 1 afterwards.
func product(a, b aes.Block) aes.Block {
	var whole [255]byte
	for i := range 128 {
		for j := range 128 {
			whole[i+j] ^= a[i/8] >> (7 - i%8) & (b[j/8] >> (7 - j%8)) & 1
		}
	}
	for i := 254; i >= 128; i-- {
		for _, down := range []int{128, 127, 126, 121} {
			whole[i-down] ^= whole[i]
		}
	}
	var rest aes.Block
	for i := range 128 {
		rest[i/8] |= whole[i] << (7 - i%8)
	}
	return rest
}

// bits writes the number of bits of bytes, big-endian.
func bits(to []byte, of []byte) {
	for i := range 8 {
		to[7-i] = byte(len(of) * 8 >> (8 * i))
	}
}

// blocks cuts bytes into blocks, and pads the last one with zero bytes.
func blocks(b []byte) []aes.Block {
	var all []aes.Block
	for ; len(b) >= 16; b = b[16:] {
		all = append(all, aes.Block(b))
	}
	if len(b) > 0 {
		var last aes.Block
		copy(last[:], b)
		all = append(all, last)
	}
	return all
}

// counted encrypts the nonce, followed by a number below 65536.
func counted(k *aes.Key, n gcm.Nonce, number int) aes.Block {
	b := append(n[:], 0, 0, byte(number/256), byte(number))
	return k.Turn(aes.Block(b))
}

// chapter seals as the chapter says it, word for word.
func chapter(k *aes.Key, n gcm.Nonce, open, plain []byte) []byte {
	var text []byte
	for i, b := range blocks(plain) {
		b = xor(b, counted(k, n, i+2))
		text = append(text, b[:]...)
	}
	text = text[:len(plain)]
	var both aes.Block
	bits(both[:8], open)
	bits(both[8:], text)
	h := k.Turn(aes.Block{})
	var tag aes.Block
	for _, b := range append(append(blocks(open), blocks(text)...), both) {
		tag = product(xor(tag, b), h)
	}
	tag = xor(tag, counted(k, n, 1))
	return append(text, tag[:]...)
}

// P6.1: what the chapter says, word for word, with blocks that are products of the field as it says them.
func TestWords(t *testing.T) {
	x := aes.New()
	for n := range 60 {
		for _, size := range []int{0, 1, 15, 16, 17, 32, 33, n} {
			key, nonce, open, plain := someKey(n), someNonce(n+1), some(n+2, size), some(n+3, n)
			want := chapter(x.Key(key), nonce, open, plain)
			expectBytes(t, lengths("Seal", open, plain), gcm.New(x, key).Seal(nonce, open, plain), want)
		}
	}
	open, plain := some(1, 9000), some(2, 5000)
	want := chapter(x.Key(someKey(3)), someNonce(4), open, plain)
	expectBytes(t, lengths("Seal", open, plain), gcm.New(x, someKey(3)).Seal(someNonce(4), open, plain), want)
}

// P6.1: the counter counts on from 2: zero bytes are sealed to the encrypted counters themselves.
func TestCounters(t *testing.T) {
	x := aes.New()
	for n := range 10 {
		nonce := someNonce(n)
		k := x.Key(someKey(n))
		got := gcm.New(x, someKey(n)).Seal(nonce, nil, make([]byte, 16*600))
		for i := range 600 {
			want := counted(k, nonce, i+2)
			expectBytes(t, "an encrypted counter", got[16*i:16*i+16], want[:])
		}
	}
}
