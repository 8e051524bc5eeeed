package sha_test

import (
	"bytes"
	"crypto/sha256"
	"encoding/hex"
	"strings"
	"sync"
	"testing"

	"binnacle/sha"
)

// message returns bytes that differ from each other and from block to block.
func message(size int) []byte {
	b := make([]byte, size)
	for i := range b {
		b[i] = byte(i*7 + i/64*13 + 1)
	}
	return b
}

// edges are the lengths at which the padding needs no block of its own, or one, or the message ends with a block.
var edges = []int{0, 1, 3, 4, 31, 32, 54, 55, 56, 57, 62, 63, 64, 65, 66, 119, 120, 127, 128, 129, 1000, 4096, 65535, 65536, 65537}

// hello is a short message and its sum.
const (
	hello    = "abc"
	helloSum = "ba7816bf8f01cfea414140de5dae2223b00361a396177a9cb410ff61f20015ad"
)

func expectHex(t *testing.T, what string, got [sha.Size]byte, want string) {
	t.Helper()
	if s := hex.EncodeToString(got[:]); s != want {
		t.Errorf("%s = %s, want %s", what, s, want)
	}
}

func expectSum(t *testing.T, what string, got [sha.Size]byte, m []byte) {
	t.Helper()
	if want := sha256.Sum256(m); got != want {
		t.Errorf("%s = %x, want %x", what, got, want)
	}
}

// P3.1: the chapter's example and other known hashes.
func TestSum(t *testing.T) {
	x := sha.New()
	cases := []struct{ message, want string }{
		{"", "e3b0c44298fc1c149afbf4c8996fb92427ae41e4649b934ca495991b7852b855"},
		{"a", "ca978112ca1bbdcafac231b39a23dc4da786eff8147c4e72b9807785afee48bb"},
		{hello, helloSum},
		{"The quick brown fox jumps over the lazy dog", "d7a8fbb307d7809469ca9abcb0082e4f8d5651e46d3cdb762d02d0bf37c9e592"},
		{"abcdbcdecdefdefgefghfghighijhijkijkljklmklmnlmnomnopnopq", "248d6a61d20638b8e5c026930c3e6039a33ce45964ff2167f6ecedd419db06c1"},
		{"abcdefghbcdefghicdefghijdefghijkefghijklfghijklmghijklmnhijklmnoijklmnopjklmnopqklmnopqrlmnopqrsmnopqrstnopqrstu", "cf5b16a778af8380036ce59e7b0492370b249b11e8f07a51afac45037afee9d1"},
		{strings.Repeat("a", 1000000), "cdc76e5c9914fb9281a1c7e284d73e67f1809a48a497200e046d39ccc7112cd0"},
	}
	for _, c := range cases {
		expectHex(t, "Sum of "+c.message[:min(len(c.message), 60)], x.Sum([]byte(c.message)), c.want)
	}
}

// P3.1: every length of the first few blocks, and greater ones.
func TestSumLengths(t *testing.T) {
	x := sha.New()
	for size := range 5 * 64 {
		expectSum(t, "Sum of "+hex.EncodeToString(message(size)), x.Sum(message(size)), message(size))
	}
	for _, size := range edges {
		for name, m := range map[string][]byte{
			"mixed bytes": message(size),
			"zero bytes":  make([]byte, size),
			"ff bytes":    bytes.Repeat([]byte{0xff}, size),
			"80 bytes":    bytes.Repeat([]byte{0x80}, size),
		} {
			if got := x.Sum(m); got != sha256.Sum256(m) {
				t.Errorf("Sum of %d %s = %x", size, name, got)
			}
		}
	}
}

// P3.1: each bit of a message counts.
func TestSumBits(t *testing.T) {
	x := sha.New()
	m := message(130)
	for i := range len(m) * 8 {
		m[i/8] ^= 1 << (i % 8)
		expectSum(t, "Sum of "+hex.EncodeToString(m), x.Sum(m), m)
		m[i/8] ^= 1 << (i % 8)
	}
}

// P3.1: the number of bits has eight bytes; these are 2^32 bits and some more.
func TestSumGreat(t *testing.T) {
	part := message(1 << 20)
	parts := [][]byte{{1, 2, 3}}
	want := sha256.New()
	want.Write(parts[0])
	for range 512 {
		parts = append(parts, part)
		want.Write(part)
	}
	got := sha.New().Sum(parts...)
	if !bytes.Equal(got[:], want.Sum(nil)) {
		t.Errorf("Sum of 2^29 + 3 bytes = %x, want %x", got, want.Sum(nil))
	}
}

// P3.1, R5: no parts at all, and parts without bytes, are no bytes.
func TestSumEmptyParts(t *testing.T) {
	x := sha.New()
	for _, parts := range [][][]byte{nil, {}, {nil}, {{}}, {nil, nil}, {{}, nil, {}}} {
		expectSum(t, "Sum of no bytes", x.Sum(parts...), nil)
	}
	expectSum(t, "Sum()", x.Sum(), nil)
	for _, size := range edges {
		m := message(size)
		half := size / 2
		expectSum(t, "Sum with parts without bytes", x.Sum(nil, m[:half], nil, []byte{}, m[half:], []byte{}), m)
	}
}

// P3.1: it is the same whether bytes come in one part or in many.
func TestSumParts(t *testing.T) {
	x := sha.New()
	m := message(200)
	for first := range len(m) + 1 {
		for _, second := range []int{0, 1, 55, 56, 63, 64, 65, 128} {
			end := min(first+second, len(m))
			expectSum(t, "Sum of parts", x.Sum(m[:first], m[first:end], m[end:]), m)
		}
	}
	for _, each := range []int{1, 2, 3, 7, 31, 32, 33, 55, 63, 64, 65, 100, 127, 128} {
		for _, size := range edges {
			m := message(size)
			expectSum(t, "Sum of many parts", x.Sum(cut(m, each)...), m)
		}
	}
	// Which part a byte belongs to doesn't matter, but the order does.
	if x.Sum([]byte("ab"), []byte("c")) != x.Sum([]byte("a"), []byte("bc")) {
		t.Error("Sum depends on where parts end")
	}
	if x.Sum([]byte("ab"), []byte("c")) == x.Sum([]byte("c"), []byte("ab")) {
		t.Error("Sum does not depend on the order of the parts")
	}
}

// cut returns m in parts of that many bytes each.
func cut(m []byte, each int) [][]byte {
	var parts [][]byte
	for len(m) > each {
		parts = append(parts, m[:each])
		m = m[each:]
	}
	return append(parts, m)
}

// P3.1, P3.2, R7: nil tables.
func TestNil(t *testing.T) {
	var x *sha.Tables
	var zero [sha.Size]byte
	long := message(1000)
	for _, b := range [][]byte{nil, {}, []byte(hello), long} {
		if x.Sum(b) != zero || x.Sum(b, b) != zero || x.Mark(b) != zero || x.Mark(b, b) != zero || x.Mark(long, b, nil) != zero {
			t.Errorf("nil tables answer something for %d bytes", len(b))
		}
	}
	if x.Sum() != zero || x.Mark(nil) != zero {
		t.Error("nil tables answer something for nothing")
	}
}

// P3.1, P3.2, R6: neither parts nor a key are changed, nor what lies behind them, nor the list of parts.
func TestArgumentsKept(t *testing.T) {
	x := sha.New()
	for _, size := range edges {
		whole := message(size + 200)
		key, spare := whole[:size], message(size + 200)[:size]
		list := [][]byte{whole[:size/2], whole[size/2 : size], whole[size:], []byte("kept")}
		x.Sum(list[:2]...)
		x.Sum(list[:0]...)
		x.Sum(key, spare)
		x.Mark(key, list[:2]...)
		x.Mark(key, list[:0]...)
		x.Mark(key, list[:3]...)
		x.Mark(spare, key)
		if !bytes.Equal(whole, message(size+200)) || !bytes.Equal(spare[:cap(spare)][:size+200], whole) {
			t.Fatalf("bytes were changed, by a key and parts of %d", size)
		}
		if len(list[0]) != size/2 || len(list[1]) != size-size/2 || len(list[2]) != 200 || string(list[3]) != "kept" {
			t.Fatalf("the list of parts was changed, by parts of %d", size)
		}
	}
}

// P3.1, P3.2, R6: arguments that change after a call change nothing.
func TestNothingRetained(t *testing.T) {
	x := sha.New()
	m, key := []byte(hello), []byte("key")
	sum, mark := x.Sum(m), x.Mark(key, m)
	clear(m)
	clear(key)
	expectHex(t, "Sum", sum, helloSum)
	expectHex(t, "Sum once more", x.Sum([]byte(hello)), helloSum)
	if got := x.Mark([]byte("key"), []byte(hello)); got != mark {
		t.Errorf("Mark once more = %x, want %x", got, mark)
	}
}

// P3.1, P3.2, R8: a result doesn't depend on what was asked before, nor of which tables.
func TestAgainAndAgain(t *testing.T) {
	x := sha.New()
	long := message(1000)
	expectMark(t, x, long, []byte(hello)) // the first that is asked of these tables
	for range 3 {
		expectHex(t, "Sum", x.Sum([]byte(hello)), helloSum)
		expectSum(t, "Sum of a long message", x.Sum(long), long)
		expectMark(t, x, long, long)
		expectHex(t, "Sum in two parts", x.Sum([]byte("a"), []byte("bc")), helloSum)
		expectMark(t, x, nil, nil)
		x = sha.New()
		expectMark(t, x, []byte("key"), long)
	}
	a, b := sha.New(), sha.New()
	if a == b {
		t.Error("New returns the same tables twice")
	}
	for range 3 {
		expectHex(t, "Sum by one", a.Sum([]byte(hello)), helloSum)
		expectHex(t, "Sum by the other one", b.Sum([]byte(hello)), helloSum)
	}
}

// P3.1, P3.2 and the way of layer 3: many may ask at once, also when nothing is computed yet.
func TestAtOnce(t *testing.T) {
	for range 100 {
		x := sha.New()
		var wait sync.WaitGroup
		for i := range 16 {
			wait.Go(func() {
				m := message(50 * i)
				if i%2 == 0 {
					expectSum(t, "Sum at once", x.Sum(m), m)
				} else {
					expectMark(t, x, m, m)
				}
			})
		}
		wait.Wait()
	}
}
