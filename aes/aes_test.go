package aes_test

import (
	stdaes "crypto/aes"
	"encoding/hex"
	"testing"

	"binnacle/aes"
)

// block reads a block, written as hexadecimal digits.
func block(t *testing.T, s string) aes.Block {
	t.Helper()
	b, e := hex.DecodeString(s)
	if e != nil || len(b) != len(aes.Block{}) {
		t.Fatalf("%q is no block", s)
	}
	return aes.Block(b)
}

// some returns a block whose bytes hang on a number, so that different numbers give different blocks.
func some(n int) aes.Block {
	var b aes.Block
	for i := range b {
		n = n*1103515245 + 12345
		b[i] = byte(n >> 16)
	}
	return b
}

// bit returns a block with one bit.
func bit(n int) aes.Block {
	var b aes.Block
	b[n/8] = 0x80 >> (n % 8)
	return b
}

// every returns a block of one byte, sixteen times.
func every(n byte) aes.Block {
	var b aes.Block
	for i := range b {
		b[i] = n
	}
	return b
}

// turned is what Go's own library encrypts a block to.
func turned(t *testing.T, k, b aes.Block) aes.Block {
	t.Helper()
	c, e := stdaes.NewCipher(k[:])
	if e != nil {
		t.Fatal(e)
	}
	var out aes.Block
	c.Encrypt(out[:], b[:])
	return out
}

func expectBlock(t *testing.T, what string, got, want aes.Block) {
	t.Helper()
	if got != want {
		t.Errorf("%s = %x, want %x", what, got, want)
	}
}

// expectTurn holds an encrypted block against that of Go's own library.
func expectTurn(t *testing.T, x *aes.Tables, k, b aes.Block) {
	t.Helper()
	if got, want := x.Key(k).Turn(b), turned(t, k, b); got != want {
		t.Errorf("Turn of %x with %x = %x, want %x", b, k, got, want)
	}
}

func expectTurned(t *testing.T, x *aes.Tables, want int64) {
	t.Helper()
	if got := x.Turned(); got != want {
		t.Errorf("Turned = %d, want %d", got, want)
	}
}

// P5.2: known blocks of known keys: the chapter's example, and those of FIPS 197, SP 800-38A, and the AES Algorithm Validation Suite.
func TestKnownBlocks(t *testing.T) {
	x := aes.New()
	const zeros = "00000000000000000000000000000000"
	cases := []struct{ name, key, block, want string }{
		{"the example", "000102030405060708090a0b0c0d0e0f", "00112233445566778899aabbccddeeff", "69c4e0d86a7b0430d8cdb78070b4c55a"},
		{"FIPS 197, B", "2b7e151628aed2a6abf7158809cf4f3c", "3243f6a8885a308d313198a2e0370734", "3925841d02dc09fbdc118597196a0b32"},
		{"SP 800-38A, 1", "2b7e151628aed2a6abf7158809cf4f3c", "6bc1bee22e409f96e93d7e117393172a", "3ad77bb40d7a3660a89ecaf32466ef97"},
		{"SP 800-38A, 2", "2b7e151628aed2a6abf7158809cf4f3c", "ae2d8a571e03ac9c9eb76fac45af8e51", "f5d3d58503b9699de785895a96fdbaaf"},
		{"SP 800-38A, 3", "2b7e151628aed2a6abf7158809cf4f3c", "30c81c46a35ce411e5fbc1191a0a52ef", "43b1cd7f598ece23881b00e3ed030688"},
		{"SP 800-38A, 4", "2b7e151628aed2a6abf7158809cf4f3c", "f69f2445df4f9b17ad2b417be66c3710", "7b0c785e27e8ad3f8223207104725dd4"},
		{"zeros only", zeros, zeros, "66e94bd4ef8a2c3b884cfa59ca342b2e"},
		{"one bit of a block", zeros, "80000000000000000000000000000000", "3ad78e726c1ec02b7ebfe92b23d9ec34"},
		{"all bits of a block", zeros, "ffffffffffffffffffffffffffffffff", "3f5b8cc9ea855a0afa7347d23e8d664e"},
		{"one bit of a key", "80000000000000000000000000000000", zeros, "0edd33d3c621e546455bd8ba1418bec8"},
		{"all bits of a key", "ffffffffffffffffffffffffffffffff", zeros, "a1f6258c877d5fcd8964484538bfc92c"},
	}
	for _, c := range cases {
		got := x.Key(block(t, c.key)).Turn(block(t, c.block))
		expectBlock(t, c.name, got, block(t, c.want))
	}
	expectTurned(t, x, int64(len(cases)))
}

// P5.2: keys and blocks of every single bit, of one byte sixteen times, and of zeros and ones only.
func TestTurn(t *testing.T) {
	x := aes.New()
	for n := range 128 {
		expectTurn(t, x, bit(n), aes.Block{})
		expectTurn(t, x, aes.Block{}, bit(n))
		expectTurn(t, x, bit(n), bit(127-n))
		expectTurn(t, x, every(0xff), bit(n))
		expectTurn(t, x, bit(n), every(0xff))
	}
	for n := range 256 {
		expectTurn(t, x, every(byte(n)), aes.Block{})
		expectTurn(t, x, aes.Block{}, every(byte(n)))
		expectTurn(t, x, every(byte(n)), every(byte(n)))
		expectTurn(t, x, every(byte(n)), every(byte(255-n)))
	}
	for n := range 2000 {
		expectTurn(t, x, some(n), some(n+100000))
	}
}

// P5.2: every byte at every place, of a block and of a key.
func TestTurnPlaces(t *testing.T) {
	x := aes.New()
	k, b := some(1), some(2)
	for i := range b {
		for n := range 256 {
			one, other := k, b
			one[i], other[i] = byte(n), byte(n)
			expectTurn(t, x, one, b)
			expectTurn(t, x, k, other)
		}
	}
}

// P5.2: a long chain, of which each block is the key or the block of the next.
func TestTurnChain(t *testing.T) {
	x := aes.New()
	var k, b, key, wanted aes.Block
	for range 3000 {
		k, b = b, x.Key(k).Turn(b)
		key, wanted = wanted, turned(t, key, wanted)
	}
	expectBlock(t, "a chain's last block", b, wanted)
	expectTurned(t, x, 3000)
}

// P5.2: Turned counts the blocks, and nothing but blocks.
func TestTurned(t *testing.T) {
	x, other := aes.New(), aes.New()
	expectTurned(t, x, 0)
	x.Box(1)
	one, two := x.Key(some(1)), x.Key(some(2))
	x.Key(some(3))
	aes.Times(2, 3)
	expectTurned(t, x, 0)
	for n := range int64(300) {
		one.Turn(some(int(n)))
		expectTurned(t, x, 2*n+1)
		two.Turn(aes.Block{})
		expectTurned(t, x, 2*n+2)
	}
	expectTurned(t, x, 600)
	expectTurned(t, other, 0)
	other.Key(some(1)).Turn(some(1))
	expectTurned(t, x, 600)
	expectTurned(t, other, 1)
	// The count is that of the tables, also for a key that is made after blocks were encrypted, and for the same key once more.
	x.Key(some(1)).Turn(some(1))
	one.Turn(some(1))
	expectTurned(t, x, 602)
	expectTurned(t, x, 602)
}

// P5.2: Turned counts on where a byte, or two of them, end.
func TestTurnedMany(t *testing.T) {
	x := aes.New()
	k := x.Key(some(1))
	for range 70000 {
		k.Turn(aes.Block{})
	}
	expectTurned(t, x, 70000)
}
