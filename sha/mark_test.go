package sha_test

import (
	"bytes"
	"crypto/hmac"
	"crypto/sha256"
	"testing"

	"binnacle/sha"
)

// expectMark holds a mark against that of Go's own library.
func expectMark(t *testing.T, x *sha.Tables, key, m []byte) {
	t.Helper()
	h := hmac.New(sha256.New, key)
	h.Write(m)
	if got, want := x.Mark(key, m), h.Sum(nil); !bytes.Equal(got[:], want) {
		t.Errorf("Mark by a key of %d bytes, of %d = %x, want %x", len(key), len(m), got, want)
	}
}

// P3.2: known marks, those of RFC 4231 among them.
func TestMark(t *testing.T) {
	x := sha.New()
	all := func(b byte, many int) string { return string(bytes.Repeat([]byte{b}, many)) }
	long := "This is a test using a larger than block-size key and a larger than block-size data. The key needs to be hashed before being used by the HMAC algorithm."
	cases := []struct{ name, key, message, want string }{
		{"nothing", "", "", "b613679a0814d9ec772f95d778c35fc5ff1697c493715653c6c712144292c5ad"},
		{"fox", "key", "The quick brown fox jumps over the lazy dog", "f7bc83f430538424b13298e6aa6fb143ef4d59a14946175997479dbc2d1a3cd8"},
		{"case 1", all(0x0b, 20), "Hi There", "b0344c61d8db38535ca8afceaf0bf12b881dc200c9833da726e9376c2e32cff7"},
		{"case 2", "Jefe", "what do ya want for nothing?", "5bdcc146bf60754e6a042426089575c75a003f089d2739839dec58b964ec3843"},
		{"case 3", all(0xaa, 20), all(0xdd, 50), "773ea91e36800e46854db8ebd09181a72959098b3ef8c122d9635514ced565fe"},
		{"case 6", all(0xaa, 131), "Test Using Larger Than Block-Size Key - Hash Key First", "60e431591ee0b67f0d8a26aacbf5b77f8e0bc6213728c5140546040f0ee37f54"},
		{"case 7", all(0xaa, 131), long, "9b09ffa71b942fcb27635fbcd5b0e944bfdc63644f0713938a7f51535c3a35e2"},
	}
	for _, c := range cases {
		expectHex(t, c.name, x.Mark([]byte(c.key), []byte(c.message)), c.want)
	}
}

// P3.2: keys of every length up to some blocks, and greater ones, with messages of edge lengths.
func TestMarkKeys(t *testing.T) {
	x := sha.New()
	for size := range 200 {
		expectMark(t, x, message(size), []byte(hello))
		expectMark(t, x, bytes.Repeat([]byte{0xff}, size), nil)
	}
	for _, size := range edges {
		for _, many := range edges {
			expectMark(t, x, message(size), message(many))
		}
	}
	expectMark(t, x, nil, []byte(hello))
	expectMark(t, x, []byte{}, []byte(hello))
}

// P3.2: a key is padded with zero bytes, and one of more than 64 bytes replaced by its Sum, but not one of 64.
func TestMarkReplaced(t *testing.T) {
	x := sha.New()
	m := []byte(hello)
	for _, size := range []int{0, 1, 32, 63, 64} {
		key := message(size)
		if x.Mark(key, m) != x.Mark(append(message(size), make([]byte, 64-size)...), m) {
			t.Errorf("a key of %d bytes is not padded with zero bytes", size)
		}
		if sum := x.Sum(key); x.Mark(key, m) == x.Mark(sum[:], m) {
			t.Errorf("a key of %d bytes is replaced", size)
		}
	}
	for _, size := range []int{65, 66, 128, 1000} {
		key := message(size)
		if sum := x.Sum(key); x.Mark(key, m) != x.Mark(sum[:], m) {
			t.Errorf("a key of %d bytes is not replaced by its Sum", size)
		}
	}
}

// P3.2, R5: no parts at all, parts without bytes, and the same bytes in one part and in many.
func TestMarkParts(t *testing.T) {
	x := sha.New()
	for _, size := range []int{0, 3, 64, 65, 200} {
		key := message(size)
		none := x.Mark(key)
		for _, parts := range [][][]byte{nil, {}, {nil}, {{}}, {nil, {}, nil}} {
			if x.Mark(key, parts...) != none {
				t.Errorf("Mark of no bytes in %d parts differs from that of no parts", len(parts))
			}
		}
		expectMark(t, x, key, nil)
		for _, many := range edges {
			m := message(many)
			want := x.Mark(key, m)
			for _, each := range []int{1, 7, 63, 64, 65} {
				if got := x.Mark(key, cut(m, each)...); got != want {
					t.Errorf("Mark of %d bytes in parts of %d = %x, want %x", many, each, got, want)
				}
			}
			half := many / 3
			if got := x.Mark(key, nil, m[:half], []byte{}, m[half:], nil); got != want {
				t.Errorf("Mark of %d bytes between parts without bytes = %x, want %x", many, got, want)
			}
		}
	}
	if x.Mark([]byte("k"), []byte("ab"), []byte("c")) == x.Mark([]byte("k"), []byte("c"), []byte("ab")) {
		t.Error("Mark does not depend on the order of the parts")
	}
	if x.Mark([]byte("ka"), []byte("bc")) == x.Mark([]byte("k"), []byte("abc")) {
		t.Error("Mark does not depend on where the key ends")
	}
}
