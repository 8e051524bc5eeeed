package kdf_test

import (
	"bytes"
	"strings"
	"sync"
	"testing"

	"binnacle/api"
	"binnacle/kdf"
	"binnacle/sha"
)

const (
	greatest = int(^uint(0) >> 1)
	least    = -greatest - 1
)

// P4.2: labels and contexts of every length that there can be.
func TestLabelLengths(t *testing.T) {
	k := kdf.New()
	s := k.Extract([]byte("salt"), []byte("known"))
	for size := range 250 {
		expectLabel(t, k, s, strings.Repeat("l", size), nil, 32)
		expectLabel(t, k, s, string(message(size)), message(32), 16)
	}
	for size := range 256 {
		expectLabel(t, k, s, "label", message(size), 32)
		expectLabel(t, k, s, "", message(size), 12)
	}
	expectLabel(t, k, s, strings.Repeat("l", 249), message(255), 8160)
	expectLabel(t, k, kdf.Secret{}, "", nil, 1)
}

// P4.2: a label's length is that of its bytes, whatever they are.
func TestLabelBytes(t *testing.T) {
	k := kdf.New()
	s := k.Extract(nil, []byte("known"))
	for _, label := range []string{"\x00", "\xff\xfe", "a\x00b", "é", "tls13 ", "\U0001f9ed", strings.Repeat("é", 124), strings.Repeat("\xff", 249)} {
		expectLabel(t, k, s, label, []byte("context"), 40)
	}
	b, e := k.Label(s, strings.Repeat("é", 125), nil, 32)
	expectError(t, "Label of 125 characters of two bytes each", b, e, api.ErrSize)
}

// P4.2: how many bytes are wanted counts as well; both bytes of it do.
func TestLabelMany(t *testing.T) {
	k := kdf.New()
	s := k.Extract(nil, []byte("known"))
	for _, many := range []int{0, 1, 12, 16, 31, 32, 33, 42, 64, 255, 256, 257, 512, 4096, 8159, 8160} {
		expectLabel(t, k, s, "label", []byte("context"), many)
	}
	short, _ := k.Label(s, "label", nil, 16)
	long, _ := k.Label(s, "label", nil, 32)
	if bytes.Equal(short, long[:16]) {
		t.Error("Label does not depend on how many bytes are wanted")
	}
	high, _ := k.Label(s, "label", nil, 16+256)
	if bytes.Equal(short, high[:16]) {
		t.Error("Label does not depend on how many times 256 bytes are wanted")
	}
}

// P4.2: where the label ends and the context begins counts, and so does each of them.
func TestLabelApart(t *testing.T) {
	k := kdf.New()
	s := k.Extract(nil, []byte("known"))
	seen := map[string]string{}
	for _, c := range []struct{ label, context string }{{"", ""}, {"", "ab"}, {"a", "b"}, {"ab", ""}, {"b", "a"}, {"ba", ""}, {"", "\x00"}, {"\x00", ""}} {
		b, e := k.Label(s, c.label, []byte(c.context), 32)
		if other, is := seen[string(b)]; is || e != api.OK {
			t.Errorf("label %q with context %q is as %s, error %d", c.label, c.context, other, e)
		}
		seen[string(b)] = c.label + ", " + c.context
	}
}

// P4.2, R2: each error, and which comes first when several apply.
func TestLabelErrors(t *testing.T) {
	k := kdf.New()
	s := k.Extract(nil, []byte("known"))
	fits, long := strings.Repeat("l", 249), strings.Repeat("l", 250)
	cases := []struct {
		label   string
		context int
		many    int
		want    api.Errno
	}{
		{fits, 255, 8160, api.OK},
		{fits, 255, 0, api.OK},
		{"", 0, 0, api.OK},
		{long, 0, 32, api.ErrSize},
		{long + long, 0, 32, api.ErrSize},
		{strings.Repeat("l", 255), 0, 32, api.ErrSize},
		{strings.Repeat("l", 256), 0, 32, api.ErrSize},
		{strings.Repeat("l", 65536), 0, 32, api.ErrSize},
		{"", 256, 32, api.ErrSize},
		{fits, 256, 32, api.ErrSize},
		{fits, 257, 32, api.ErrSize},
		{fits, 512, 32, api.ErrSize},
		{fits, 65536, 32, api.ErrSize},
		{long, 256, 32, api.ErrSize},
		{"l", 0, -1, api.ErrRange},
		{"l", 0, least, api.ErrRange},
		{"l", 0, greatest, api.ErrRange},
		{"l", 0, 65536, api.ErrRange},
		{"l", 0, 65536 + 32, api.ErrRange},
		{"l", 0, 1<<32 + 32, api.ErrRange},
		{"l", 0, 65535, api.ErrRange}, // Expand's
		{"l", 0, 8161, api.ErrRange},
		{fits, 255, 8161, api.ErrRange},
		{long, 0, -1, api.ErrSize},
		{long, 0, 8161, api.ErrSize},
		{long, 0, 65536, api.ErrSize},
		{"l", 256, -1, api.ErrSize},
		{"l", 256, 8161, api.ErrSize},
		{"l", 256, 65535, api.ErrSize},
		{"l", 256, 65536, api.ErrSize},
		{long, 256, greatest, api.ErrSize},
	}
	for _, c := range cases {
		b, e := k.Label(s, c.label, message(c.context), c.many)
		if c.want != api.OK {
			expectError(t, "Label", b, e, c.want)
		} else if e != api.OK || len(b) != c.many {
			t.Errorf("Label of %d bytes with a context of %d to %d = %d bytes, error %d", len(c.label), c.context, c.many, len(b), e)
		}
	}
}

// P4.2: what was said, of any length, counts by its hash; labels have any length that Label takes.
func TestDerive(t *testing.T) {
	k := kdf.New()
	s := k.Extract([]byte("salt"), []byte("known"))
	for _, size := range []int{0, 1, 31, 32, 33, 55, 56, 63, 64, 65, 255, 256, 257, 1000, 65536, 70000} {
		expectDerive(t, k, s, "derived", message(size))
		expectDerive(t, k, kdf.Secret{}, "", message(size))
	}
	for size := range 250 {
		expectDerive(t, k, s, strings.Repeat("l", size), []byte("said"))
	}
	if k.Derive(s, "l", nil) != k.Derive(s, "l", []byte{}) {
		t.Error("Derive tells nil and no bytes apart")
	}
}

// P4.2, R3: Label's error leaves Derive no bytes for its secret.
func TestDeriveTooLong(t *testing.T) {
	k := kdf.New()
	s := k.Extract([]byte("salt"), []byte("known"))
	for _, size := range []int{250, 251, 255, 256, 1000} {
		if k.Derive(s, strings.Repeat("l", size), []byte("said")) != (kdf.Secret{}) {
			t.Errorf("Derive with a label of %d bytes answers something", size)
		}
	}
}

// P4.2: the tables are those of the object, always the same ones, and of no other object.
func TestTables(t *testing.T) {
	one, two := kdf.New(), kdf.New()
	if one == two {
		t.Fatal("New returns the same object twice")
	}
	x := one.Tables()
	if x == nil || x == two.Tables() {
		t.Fatal("Tables returns none, or those of another object")
	}
	s := one.Extract([]byte("salt"), []byte("known"))
	if x.Mark([]byte("salt"), []byte("known")) != s || one.Tables() != x {
		t.Error("Tables returns others than those in use")
	}
	if x.Sum([]byte("abc")) != sha.New().Sum([]byte("abc")) {
		t.Error("Tables returns tables of something else")
	}
}

// P4.1, P4.2, R7: a nil Kdf answers nothing, whatever else is wrong.
func TestNil(t *testing.T) {
	var k *kdf.Kdf
	s := kdf.New().Extract([]byte("salt"), []byte("known"))
	if k.Tables() != nil {
		t.Error("a nil Kdf has tables")
	}
	for _, size := range []int{0, 1, 255, 256, 1000} {
		m := message(size)
		if k.Extract(m, m) != (kdf.Secret{}) || k.Derive(s, string(m), m) != (kdf.Secret{}) {
			t.Errorf("a nil Kdf answers a secret, of %d bytes", size)
		}
		for _, many := range []int{least, -1, 0, 1, 32, 8160, 8161, 65535, 65536, greatest} {
			b, e := k.Expand(s, m, many)
			expectError(t, "Expand of a nil Kdf", b, e, api.ErrNil)
			b, e = k.Label(s, string(m), m, many)
			expectError(t, "Label of a nil Kdf", b, e, api.ErrNil)
		}
	}
}

// P4.1, P4.2, R6: no argument is changed, nor what lies behind it.
func TestArgumentsKept(t *testing.T) {
	k := kdf.New()
	for _, size := range []int{0, 1, 32, 64, 65, 200, 255, 256} {
		whole := message(size + 500)
		b := whole[:size]
		s := k.Extract(b, b)
		before := s
		for _, many := range []int{-1, 0, 1, 32, 100, 8160, 8161} {
			k.Extract(b, []byte("known"))
			k.Extract([]byte("salt"), b)
			k.Expand(s, b, many)
			k.Label(s, "label", b, many)
			k.Derive(s, "label", b)
		}
		if !bytes.Equal(whole, message(size+500)) || s != before {
			t.Fatalf("%d bytes, or what lies behind them, were changed", size)
		}
	}
}

// P4.1, P4.2, R6: results are new: a change of one changes neither arguments nor other results.
func TestResultsNew(t *testing.T) {
	k := kdf.New()
	s := k.Extract([]byte("salt"), []byte("known"))
	about := message(32)
	for _, many := range []int{1, 32, 33, 64, 100} {
		one, _ := k.Expand(s, about, many)
		clear(one[:cap(one)])
		two, _ := k.Label(s, "label", about, many)
		clear(two[:cap(two)])
		expectExpand(t, k, s, message(32), many)
		expectLabel(t, k, s, "label", message(32), many)
		if !bytes.Equal(about, message(32)) {
			t.Fatal("an argument shares memory with a result")
		}
	}
	// Nothing of the arguments is kept either.
	salt, known := []byte("salt"), []byte("known")
	first := k.Extract(salt, known)
	clear(salt)
	clear(known)
	if first != s || k.Extract([]byte("salt"), []byte("known")) != s {
		t.Error("Extract keeps an argument")
	}
	all, _ := k.Expand(s, about, 64)
	kept := bytes.Clone(all)
	clear(about)
	if !bytes.Equal(all, kept) {
		t.Error("a result shares memory with an argument")
	}
}

// P4.1, P4.2, R4, R8: a Kdf may be used again and again, in any order, also after errors; which one doesn't matter.
func TestAgainAndAgain(t *testing.T) {
	k := kdf.New()
	s := kdf.New().Extract([]byte("salt"), []byte("known"))
	for range 3 {
		expectDerive(t, k, s, "derived", []byte("said"))
		k.Expand(s, nil, -1)
		expectLabel(t, k, s, "label", message(255), 100)
		k.Label(s, "label", message(256), 100)
		expectExpand(t, k, s, []byte("about"), 8160)
		expectExtract(t, k, []byte("salt"), []byte("known"))
		expectExpand(t, k, s, nil, 0)
		k.Tables().Sum([]byte("abc"))
		expectExpand(t, k, s, []byte("about"), 42)
		k.Derive(s, strings.Repeat("l", 300), nil)
		expectLabel(t, k, s, "", nil, 1)
		k = kdf.New()
	}
}

// P4.1, P4.2: many may ask one Kdf at once.
func TestAtOnce(t *testing.T) {
	for range 20 {
		k := kdf.New()
		var wait sync.WaitGroup
		for i := range 16 {
			wait.Go(func() {
				s := kdf.Secret{byte(i)}
				switch i % 4 {
				case 0:
					expectExtract(t, k, message(i), message(50*i))
				case 1:
					expectExpand(t, k, s, message(i), 50*i)
				case 2:
					expectLabel(t, k, s, "label", message(i), 50*i)
				default:
					expectDerive(t, k, s, "label", message(50*i))
				}
			})
		}
		wait.Wait()
	}
}
