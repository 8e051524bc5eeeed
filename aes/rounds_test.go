package aes_test

import (
	"strconv"
	"testing"

	"binnacle/aes"
)

// roundKeys are those of the key of FIPS 197, appendix A.1.
var roundKeys = []string{
	"2b7e151628aed2a6abf7158809cf4f3c",
	"a0fafe1788542cb123a339392a6c7605",
	"f2c295f27a96b9435935807a7359f67f",
	"3d80477d4716fe3e1e237e446d7a883b",
	"ef44a541a8525b7fb671253bdb0bad00",
	"d4d1c6f87c839d87caf2b8bc11f915bc",
	"6d88a37a110b3efddbf98641ca0093fd",
	"4e54f70e5f5fc9f384a64fb24ea6dc4f",
	"ead27321b58dbad2312bf5607f8d292f",
	"ac7766f319fadc2128d12941575c006e",
	"d014f9a8c9ee2589e13f0cc8b6630ca6",
}

// starts are the blocks with which the rounds of FIPS 197, appendix B, start.
var starts = []string{
	"193de3bea0f4e22b9ac68d2ae9f84808",
	"a49c7ff2689f352b6b5bea43026a5049",
	"aa8f5f0361dde3ef82d24ad26832469a",
	"486c4eee671d9d0d4de3b138d65f58e7",
	"e0927fe8c86363c0d9b1355085b8be01",
	"f1006f55c1924cef7cc88b325db5d50c",
	"260e2e173d41b77de86472a9fdd28b25",
	"5a4142b11949dc1fa3e019657a8c040c",
	"ea835cf00445332d655d98ad8596b0c5",
	"eb40f21e592e38848ba113e71bc342d2",
}

// xor returns the XOR of two blocks.
func xor(a, b aes.Block) aes.Block {
	for i := range a {
		a[i] ^= b[i]
	}
	return a
}

// exchanged applies Box to every byte, and rotates row r left by r.
func exchanged(x *aes.Tables, b aes.Block) aes.Block {
	var out aes.Block
	for c := range 4 {
		for r := range 4 {
			out[4*c+r] = x.Box(b[4*((c+r)%4)+r])
		}
	}
	return out
}

// mixed mixes each column.
func mixed(b aes.Block) aes.Block {
	factors := [4]byte{2, 3, 1, 1}
	var out aes.Block
	for i := range b {
		for n, f := range factors {
			out[i] ^= aes.Times(f, b[i/4*4+(i+n)%4])
		}
	}
	return out
}

// following expands one round key into the next one.
func following(x *aes.Tables, last aes.Block, r int) aes.Block {
	power := byte(1)
	for range r - 1 {
		power = aes.Times(power, 2)
	}
	next := last
	for i, from := range []int{13, 14, 15, 12} {
		next[i] ^= x.Box(last[from])
	}
	next[0] ^= power
	for i := 4; i < 16; i++ {
		next[i] = last[i] ^ next[i-4]
	}
	return next
}

// rounds encrypts a block, round after round, by written-out round keys; last tells whether the last round mixes as well.
func rounds(x *aes.Tables, keys []aes.Block, b aes.Block, last bool) aes.Block {
	b = xor(b, keys[0])
	for r := 1; r < len(keys); r++ {
		b = exchanged(x, b)
		if r < len(keys)-1 || last {
			b = mixed(b)
		}
		b = xor(b, keys[r])
	}
	return b
}

// expanded expands a key into its round keys.
func expanded(x *aes.Tables, k aes.Block) []aes.Block {
	keys := []aes.Block{k}
	for r := 1; r <= 10; r++ {
		keys = append(keys, following(x, keys[r-1], r))
	}
	return keys
}

// P5.2: the round keys of a known key are those with which blocks are encrypted.
func TestRoundKeys(t *testing.T) {
	x := aes.New()
	var keys []aes.Block
	for _, s := range roundKeys {
		keys = append(keys, block(t, s))
	}
	for r, k := range expanded(x, keys[0]) {
		expectBlock(t, "round key "+strconv.Itoa(r), k, keys[r])
	}
	k := x.Key(keys[0])
	for n := range 200 {
		expectBlock(t, "Turn", k.Turn(some(n)), rounds(x, keys, some(n), false))
	}
}

// P5.2: the known blocks between the rounds, to the last of which no mixing is applied.
func TestKnownRounds(t *testing.T) {
	x := aes.New()
	in, out := block(t, "3243f6a8885a308d313198a2e0370734"), block(t, "3925841d02dc09fbdc118597196a0b32")
	expectBlock(t, "the block XORed with the key", xor(in, block(t, roundKeys[0])), block(t, starts[0]))
	for r := 1; r < len(starts); r++ {
		b := xor(mixed(exchanged(x, block(t, starts[r-1]))), block(t, roundKeys[r]))
		expectBlock(t, "round "+strconv.Itoa(r), b, block(t, starts[r]))
	}
	expectBlock(t, "the last round", xor(exchanged(x, block(t, starts[9])), block(t, roundKeys[10])), out)
	expectBlock(t, "Turn", x.Key(block(t, roundKeys[0])).Turn(in), out)
}

// P5.2: blocks of many keys, as the chapter says it; the last round omits the mixing.
func TestRounds(t *testing.T) {
	x := aes.New()
	for n := range 300 {
		b := some(n + 1000)
		keys := expanded(x, some(n))
		got := x.Key(some(n)).Turn(b)
		expectBlock(t, "Turn", got, rounds(x, keys, b, false))
		if got == rounds(x, keys, b, true) {
			t.Error("the last round mixes")
		}
	}
	for _, k := range []aes.Block{{}, every(0xff), every(0x63), bit(0), bit(127)} {
		expectBlock(t, "Turn of zeros", x.Key(k).Turn(aes.Block{}), rounds(x, expanded(x, k), aes.Block{}, false))
		expectBlock(t, "Turn of the key", x.Key(k).Turn(k), rounds(x, expanded(x, k), k, false))
	}
}
