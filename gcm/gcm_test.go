package gcm_test

import (
	"bytes"
	stdaes "crypto/aes"
	"crypto/cipher"
	"encoding/hex"
	"strconv"
	"testing"

	"binnacle/aes"
	"binnacle/api"
	"binnacle/gcm"
)

// edges are lengths just below, at and just above multiples of sixteen.
var edges = []int{0, 1, 2, 8, 12, 15, 16, 17, 31, 32, 33, 47, 48, 49, 63, 64, 65, 127, 128, 129, 255, 256, 257}

// some returns bytes that hang on a number, so that different numbers give different bytes.
func some(n, size int) []byte {
	b := make([]byte, size)
	for i := range b {
		n = n*1103515245 + 12345
		b[i] = byte(n >> 16)
	}
	return b
}

func someKey(n int) aes.Block {
	return aes.Block(some(n, 16))
}

func someNonce(n int) gcm.Nonce {
	return gcm.Nonce(some(n, 12))
}

// bit returns a block with one bit.
func bit(n int) aes.Block {
	var b aes.Block
	b[n/8] = 0x80 >> (n % 8)
	return b
}

// flipped returns bytes with one bit turned round.
func flipped(b []byte, n int) []byte {
	b = bytes.Clone(b)
	b[n/8] ^= 0x80 >> (n % 8)
	return b
}

func fromHex(t *testing.T, s string) []byte {
	t.Helper()
	b, e := hex.DecodeString(s)
	if e != nil {
		t.Fatal(e)
	}
	return b
}

// library is Go's own AES-128-GCM of a key.
func library(t *testing.T, k aes.Block) cipher.AEAD {
	t.Helper()
	c, e := stdaes.NewCipher(k[:])
	if e != nil {
		t.Fatal(e)
	}
	a, e := cipher.NewGCM(c)
	if e != nil {
		t.Fatal(e)
	}
	return a
}

// sealed is what Go's own library makes of bytes.
func sealed(t *testing.T, k aes.Block, n gcm.Nonce, open, plain []byte) []byte {
	t.Helper()
	return library(t, k).Seal(nil, n[:], plain, open)
}

func expectBytes(t *testing.T, what string, got, want []byte) {
	t.Helper()
	if !bytes.Equal(got, want) {
		t.Errorf("%s = %x, want %x", what, got, want)
	}
}

func expectPlain(t *testing.T, what string, got []byte, e api.Errno, want []byte) {
	t.Helper()
	if e != api.OK || !bytes.Equal(got, want) {
		t.Errorf("%s = %x, error %d, want %x", what, got, e, want)
	}
}

// expectError holds an error against what is wanted; beside it there are no bytes, not even in spare room.
func expectError(t *testing.T, what string, got []byte, e, want api.Errno) {
	t.Helper()
	if e != want || len(got) != 0 || cap(got) != 0 {
		t.Errorf("%s = %d bytes with room for %d, error %d, want error %d", what, len(got), cap(got), e, want)
	}
}

// lengths names a case.
func lengths(what string, open, plain []byte) string {
	return what + " of " + strconv.Itoa(len(open)) + " open bytes and " + strconv.Itoa(len(plain))
}

// expectBoth seals bytes, holds what comes out against Go's own library, and opens it again.
func expectBoth(t *testing.T, x *aes.Tables, k aes.Block, n gcm.Nonce, open, plain []byte) {
	t.Helper()
	s := gcm.New(x, k)
	got, want := s.Seal(n, open, plain), sealed(t, k, n, open, plain)
	if !bytes.Equal(got, want) {
		t.Errorf("%s differs from what is wanted", lengths("Seal", open, plain))
	}
	back, e := s.Open(n, open, want)
	if e != api.OK || !bytes.Equal(back, plain) {
		t.Errorf("%s is another one, or has error %d", lengths("Open", open, plain), e)
	}
}

// known is a key, a nonce, open bytes and plain ones, and what they are sealed to.
type known struct{ name, key, nonce, open, plain, text, tag string }

// knowns are the test cases of the paper that specified GCM, one of IEEE 802.1AE, and packets of RFC 9001.
var knowns = []known{
	{
		"case 1, the chapter's example", "00000000000000000000000000000000", "000000000000000000000000", "", "", "",
		"58e2fccefa7e3061367f1d57a4e7455a",
	},
	{
		"case 2", "00000000000000000000000000000000", "000000000000000000000000", "", "00000000000000000000000000000000",
		"0388dace60b6a392f328c2b971b2fe78", "ab6e47d42cec13bdf53a67b21257bddf",
	},
	{
		"case 3", "feffe9928665731c6d6a8f9467308308", "cafebabefacedbaddecaf888", "",
		"d9313225f88406e5a55909c5aff5269a86a7a9531534f7da2e4c303d8a318a721c3c0c95956809532fcf0e2449a6b525b16aedf5aa0de657ba637b391aafd255",
		"42831ec2217774244b7221b784d0d49ce3aa212f2c02a4e035c17e2329aca12e21d514b25466931c7d8f6a5aac84aa051ba30b396a0aac973d58e091473f5985",
		"4d5c2af327cd64a62cf35abd2ba6fab4",
	},
	{
		"case 4", "feffe9928665731c6d6a8f9467308308", "cafebabefacedbaddecaf888", "feedfacedeadbeeffeedfacedeadbeefabaddad2",
		"d9313225f88406e5a55909c5aff5269a86a7a9531534f7da2e4c303d8a318a721c3c0c95956809532fcf0e2449a6b525b16aedf5aa0de657ba637b39",
		"42831ec2217774244b7221b784d0d49ce3aa212f2c02a4e035c17e2329aca12e21d514b25466931c7d8f6a5aac84aa051ba30b396a0aac973d58e091",
		"5bc94fbc3221a5db94fae95ae7121a47",
	},
	{
		"IEEE 802.1AE, 54 bytes, open only", "ad7a2bd03eac835a6f620fdcb506b345", "12153524c0895e81b2c28465",
		"d609b1f056637a0d46df998d88e5222ab2c2846512153524c0895e8108000f101112131415161718191a1b1c1d1e1f202122232425262728292a2b2c2d2e2f30313233340001",
		"", "", "f09478a9b09007d06f46e9b6a1da25dd",
	},
	{
		"RFC 9001, A.4, open only", "be0c690b9f66575a1d766b54e368c84e", "461599d35d632bf2239825bb",
		"088394c8f03e515708ff000000010008f067a5502a4262b5746f6b656e", "", "", "04a265ba2eff4d829058fb3f0f2496ba",
	},
	{
		"RFC 9001, A.3", "cf3a5331653c364c88f0f379b6067e37", "0ac1493ca1905853b0bba03f", "c1000000010008f067a5502a4262b50040750001",
		"02000000000600405a020000560303eefce7f7b37ba1d1632e96677825ddf73988cfc79825df566dc5430b9a045a1200130100002e00330024001d00209d3c940d89690b84d08a60993c144eca684d1081287c834d5311bcf32bb9da1a002b00020304",
		"5a482cd0991cd25b0aac406a5816b6394100f37a1c69797554780bb38cc5a99f5ede4cf73c3ec2493a1839b3dbcba3f6ea46c5b7684df3548e7ddeb9c3bf9c73cc3f3bded74b562bfb19fb84022f8ef4cdd93795d77d06edbb7aaf2f58891850abbd",
		"ca3d20398c276456cbc42158407dd074ee",
	},
}

// P6.1, P6.2: known keys, nonces, open and plain bytes.
func TestKnown(t *testing.T) {
	x := aes.New()
	for _, c := range knowns {
		s := gcm.New(x, aes.Block(fromHex(t, c.key)))
		n := gcm.Nonce(fromHex(t, c.nonce))
		open, plain, want := fromHex(t, c.open), fromHex(t, c.plain), fromHex(t, c.text+c.tag)
		expectBytes(t, c.name+": Seal", s.Seal(n, open, plain), want)
		back, e := s.Open(n, open, want)
		expectPlain(t, c.name+": Open", back, e, plain)
	}
}

// P6.1: the tag has the length that Mark says, and the ciphertext that of plain.
func TestMark(t *testing.T) {
	if gcm.Mark != 16 || len(gcm.Nonce{}) != 12 {
		t.Errorf("Mark = %d, and a nonce has %d bytes", gcm.Mark, len(gcm.Nonce{}))
	}
	s := gcm.New(aes.New(), someKey(1))
	for size := range 100 {
		for _, open := range []int{0, size, 99 - size} {
			if got := len(s.Seal(someNonce(2), some(3, open), some(4, size))); got != size+16 {
				t.Errorf("%d bytes are sealed to %d", size, got)
			}
		}
	}
}

// P6.1, P6.2: every length of open and of plain up to some blocks, of none too.
func TestLengths(t *testing.T) {
	x := aes.New()
	for open := range 51 {
		for plain := range 51 {
			expectBoth(t, x, someKey(open), someNonce(plain), some(open+1, open), some(plain+2, plain))
		}
	}
	for _, open := range edges {
		for _, plain := range edges {
			expectBoth(t, x, someKey(plain), someNonce(open), some(open+3, open), some(plain+4, plain))
		}
	}
}

// P6.1, P6.2: more blocks than one byte of the counter counts, and than two; more bits than one, two and three bytes of a length count.
func TestMany(t *testing.T) {
	x := aes.New()
	for blocks := 252; blocks < 260; blocks++ {
		for more := -1; more <= 1; more++ {
			size := 16*blocks + more
			expectBoth(t, x, someKey(blocks), someNonce(more), some(1, 20), some(2, size))
			expectBoth(t, x, someKey(blocks), someNonce(more), some(3, size), some(4, 20))
		}
	}
	for _, size := range []int{8191, 8192, 8193, 1<<20 - 32, 1<<20 - 16, 1 << 20, 1<<21 + 5} {
		expectBoth(t, x, someKey(size), someNonce(1), some(1, 20), some(2, size))
		expectBoth(t, x, someKey(size), someNonce(2), some(3, size), some(4, 20))
	}
}

// P6.1, P6.2: keys and nonces of zeros, of ones, and of every single bit.
func TestKeysAndNonces(t *testing.T) {
	x := aes.New()
	ones := bytes.Repeat([]byte{0xff}, 40)
	key, nonce := aes.Block(ones[:16]), gcm.Nonce(ones[:12])
	expectBoth(t, x, aes.Block{}, gcm.Nonce{}, make([]byte, 40), make([]byte, 40))
	expectBoth(t, x, key, nonce, ones, ones)
	expectBoth(t, x, aes.Block{}, nonce, ones, make([]byte, 40))
	expectBoth(t, x, key, gcm.Nonce{}, make([]byte, 40), ones)
	for n := range 128 {
		expectBoth(t, x, bit(n), gcm.Nonce{}, nil, nil)
		expectBoth(t, x, bit(n), nonce, ones, ones)
	}
	for n := range 96 {
		one := bit(n)
		expectBoth(t, x, aes.Block{}, gcm.Nonce(one[:12]), nil, nil)
		expectBoth(t, x, key, gcm.Nonce(one[:12]), ones, ones)
	}
	for n := range 1000 {
		expectBoth(t, x, someKey(n), someNonce(n+1), some(n+2, n%37), some(n+3, n%41))
	}
}

// P6.1: blocks of every single bit.
func TestBits(t *testing.T) {
	x := aes.New()
	for n := range 128 {
		b := bit(n)
		expectBoth(t, x, someKey(n), someNonce(n), b[:], nil)
		expectBoth(t, x, someKey(n), someNonce(n), nil, b[:])
		expectBoth(t, x, someKey(n), someNonce(n), b[:], b[:])
	}
}

// P6.1: nil and no bytes are the same; what is open is not what is plain.
func TestNoBytes(t *testing.T) {
	s := gcm.New(aes.New(), someKey(1))
	n, none := someNonce(2), []byte{}
	expectBytes(t, "Seal of no bytes", s.Seal(n, none, none), s.Seal(n, nil, nil))
	expectBytes(t, "Seal of no open bytes", s.Seal(n, none, some(1, 20)), s.Seal(n, nil, some(1, 20)))
	expectBytes(t, "Seal of no plain bytes", s.Seal(n, some(1, 20), none), s.Seal(n, some(1, 20), nil))
	if bytes.Equal(s.Seal(n, some(1, 16), nil), s.Seal(n, nil, some(1, 16))[16:]) {
		t.Error("the tag takes open for the ciphertext")
	}
	for _, open := range [][]byte{nil, none} {
		back, e := s.Open(n, open, s.Seal(n, nil, nil))
		expectPlain(t, "Open of a tag only", back, e, nil)
	}
}
