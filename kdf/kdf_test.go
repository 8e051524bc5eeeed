package kdf_test

import (
	"bytes"
	"crypto/hkdf"
	"crypto/hmac"
	"crypto/sha256"
	"encoding/hex"
	"strconv"
	"strings"
	"testing"

	"binnacle/api"
	"binnacle/kdf"
)

// message returns bytes that differ from each other.
func message(size int) []byte {
	b := make([]byte, size)
	for i := range b {
		b[i] = byte(i*7 + i/64*13 + 1)
	}
	return b
}

func fromHex(t *testing.T, s string) []byte {
	t.Helper()
	b, e := hex.DecodeString(strings.ReplaceAll(s, " ", ""))
	if e != nil {
		t.Fatal(e)
	}
	return b
}

func secret(t *testing.T, s string) kdf.Secret {
	t.Helper()
	b := fromHex(t, s)
	if len(b) != len(kdf.Secret{}) {
		t.Fatalf("a secret of %d bytes", len(b))
	}
	return kdf.Secret(b)
}

func expectHex(t *testing.T, what string, got []byte, e api.Errno, want string) {
	t.Helper()
	if s := hex.EncodeToString(got); s != want || e != api.OK {
		t.Errorf("%s = %s, error %d, want %s", what, s, e, want)
	}
}

func expectError(t *testing.T, what string, got []byte, e, want api.Errno) {
	t.Helper()
	if e != want || len(got) != 0 {
		t.Errorf("%s = %d bytes, error %d, want error %d", what, len(got), e, want)
	}
}

// expectBytes holds an answer against what is wanted; what lies behind it must not be more of the secret.
func expectBytes(t *testing.T, what string, got []byte, e api.Errno, want []byte) {
	t.Helper()
	if e != api.OK || !bytes.Equal(got, want) {
		t.Errorf("%s = %x, error %d, want %x", what, got, e, want)
	}
	for _, n := range got[len(got):cap(got)] {
		if n != 0 {
			t.Errorf("%s has bytes behind its end: %x", what, got[len(got):cap(got)])
			return
		}
	}
}

// expectExtract holds a secret against that of Go's own library.
func expectExtract(t *testing.T, k *kdf.Kdf, salt, known []byte) {
	t.Helper()
	want, e := hkdf.Extract(sha256.New, known, salt)
	if e != nil {
		t.Fatal(e)
	}
	if got := k.Extract(salt, known); !bytes.Equal(got[:], want) {
		t.Errorf("Extract with a salt of %d bytes, of %d = %x, want %x", len(salt), len(known), got, want)
	}
}

// expanded is what Go's own library makes of a secret.
func expanded(t *testing.T, s kdf.Secret, about []byte, many int) []byte {
	t.Helper()
	b, e := hkdf.Expand(sha256.New, s[:], string(about), many)
	if e != nil {
		t.Fatal(e)
	}
	return b
}

func expectExpand(t *testing.T, k *kdf.Kdf, s kdf.Secret, about []byte, many int) {
	t.Helper()
	got, e := k.Expand(s, about, many)
	expectBytes(t, "Expand", got, e, expanded(t, s, about, many))
}

// labelled is what a label's bytes are expanded about.
func labelled(label string, context []byte, many int) []byte {
	about := []byte{byte(many >> 8), byte(many), byte(6 + len(label))}
	about = append(about, "tls13 "...)
	about = append(about, label...)
	about = append(about, byte(len(context)))
	return append(about, context...)
}

func expectLabel(t *testing.T, k *kdf.Kdf, s kdf.Secret, label string, context []byte, many int) {
	t.Helper()
	got, e := k.Label(s, label, context, many)
	expectBytes(t, "Label "+strconv.Quote(label), got, e, expanded(t, s, labelled(label, context, many), many))
}

func expectDerive(t *testing.T, k *kdf.Kdf, s kdf.Secret, label string, said []byte) {
	t.Helper()
	sum := sha256.Sum256(said)
	want := expanded(t, s, labelled(label, sum[:], 32), 32)
	if got := k.Derive(s, label, said); !bytes.Equal(got[:], want) {
		t.Errorf("Derive %q of %d bytes = %x, want %x", label, len(said), got, want)
	}
}

// P4.1: the known keys of RFC 5869, those of the chapter's example among them.
func TestKnownKeys(t *testing.T) {
	k := kdf.New()
	count := func(from byte, many int) string {
		b := make([]byte, many)
		for i := range b {
			b[i] = from + byte(i)
		}
		return hex.EncodeToString(b)
	}
	cases := []struct {
		name, known, salt, about string
		many                     int
		secret, bytes            string
	}{
		{
			"case 1", strings.Repeat("0b", 22), count(0, 13), count(0xf0, 10), 42,
			"077709362c2e32df0ddc3f0dc47bba6390b6c73bb50f9c3122ec844ad7c2b3e5",
			"3cb25f25faacd57a90434f64d0362f2a2d2d0a90cf1a5a4c5db02d56ecc4c5bf34007208d5b887185865",
		},
		{
			"case 2", count(0, 80), count(0x60, 80), count(0xb0, 80), 82,
			"06a6b88c5853361a06104c9ceb35b45cef760014904671014a193f40c15fc244",
			"b11e398dc80327a1c8e7f78c596a49344f012eda2d4efad8a050cc4c19afa97c59045a99cac7827271cb41c65e590e09da3275600c2f09b8367793a9aca3db71cc30c58179ec3e87c14c01d5c1f3434f1d87",
		},
		{
			"case 3", strings.Repeat("0b", 22), "", "", 42,
			"19ef24a32c717b167f33a91d6f648bdf96596776afdb6377ac434c1c293ccb04",
			"8da4e775a563c18f715f802a063c5a31b8a11f5c5ee1879ec3454e5f3c738d2d9d201395faa4b61a96c8",
		},
	}
	for _, c := range cases {
		s := k.Extract(fromHex(t, c.salt), fromHex(t, c.known))
		expectHex(t, c.name+": Extract", s[:], api.OK, c.secret)
		b, e := k.Expand(s, fromHex(t, c.about), c.many)
		expectHex(t, c.name+": Expand", b, e, c.bytes)
	}
}

// P4.1: salts and known bytes of every length up to two blocks, also of none.
func TestExtract(t *testing.T) {
	k := kdf.New()
	for size := range 130 {
		expectExtract(t, k, message(size), []byte("known"))
		expectExtract(t, k, []byte("salt"), message(size))
		expectExtract(t, k, message(size), message(129-size))
	}
	expectExtract(t, k, message(1000), message(5000))
	none := k.Extract(nil, nil)
	expectHex(t, "Extract of nothing", none[:], api.OK, "b613679a0814d9ec772f95d778c35fc5ff1697c493715653c6c712144292c5ad")
	if k.Extract([]byte{}, []byte{}) != none || k.Extract(nil, []byte{}) != none || k.Extract([]byte{}, nil) != none {
		t.Error("Extract tells nil and no bytes apart")
	}
	if k.Extract([]byte("a"), []byte("b")) == k.Extract([]byte("b"), []byte("a")) {
		t.Error("Extract takes the salt for what is known")
	}
}

// P4.1: every number of bytes up to some marks, those around the edges of marks, and the greatest.
func TestExpand(t *testing.T) {
	k := kdf.New()
	s := k.Extract([]byte("salt"), []byte("known"))
	for many := range 200 {
		expectExpand(t, k, s, []byte("about"), many)
	}
	for _, many := range []int{0, 1, 31, 32, 33, 42, 63, 64, 65, 255, 256, 257, 8128, 8129, 8159, 8160} {
		for _, size := range []int{0, 1, 23, 32, 64, 100, 255, 256, 1000} {
			expectExpand(t, k, s, message(size), many)
			expectExpand(t, k, kdf.Secret{}, message(size), many)
		}
	}
	// Fewer bytes are the first ones of more.
	all, e := k.Expand(kdf.Secret{}, nil, 8160)
	if e != api.OK || len(all) != 8160 {
		t.Fatalf("Expand to 8160 = %d bytes, error %d", len(all), e)
	}
	for _, many := range []int{0, 1, 32, 33, 42, 8159} {
		b, e := k.Expand(kdf.Secret{}, nil, many)
		expectBytes(t, "Expand to fewer", b, e, all[:many])
	}
}

// P4.1: each mark is that of the one before, about, and the mark's number; the first one has none before.
func TestExpandMarks(t *testing.T) {
	k := kdf.New()
	s := k.Extract([]byte("salt"), []byte("known"))
	about := []byte("about")
	all, e := k.Expand(s, about, 8160)
	var want, last []byte
	for i := 1; i <= 255; i++ {
		h := hmac.New(sha256.New, s[:])
		h.Write(last)
		h.Write(about)
		h.Write([]byte{byte(i)})
		last = h.Sum(nil)
		want = append(want, last...)
	}
	expectBytes(t, "Expand to all marks", all, e, want)
}

// P4.1: how many bytes there can be.
func TestExpandErrors(t *testing.T) {
	k := kdf.New()
	s := k.Extract(nil, nil)
	const most, least = int(^uint(0) >> 1), -int(^uint(0)>>1) - 1
	for _, many := range []int{-1, -2, -32, -8160, -65536, least, 8161, 8192, 65535, 65536, 1 << 32, 1<<32 + 32, most} {
		for _, about := range [][]byte{nil, {}, []byte("about"), message(1000)} {
			b, e := k.Expand(s, about, many)
			expectError(t, "Expand", b, e, api.ErrRange)
		}
	}
	for _, many := range []int{0, 8160} {
		b, e := k.Expand(s, nil, many)
		if len(b) != many || e != api.OK {
			t.Errorf("Expand to %d = %d bytes, error %d", many, len(b), e)
		}
	}
}

// P4.1, R5: about may be nil or have no bytes.
func TestExpandAboutNothing(t *testing.T) {
	k := kdf.New()
	s := k.Extract(nil, []byte("known"))
	want := expanded(t, s, nil, 100)
	for _, about := range [][]byte{nil, {}, message(5)[:0]} {
		b, e := k.Expand(s, about, 100)
		expectBytes(t, "Expand about nothing", b, e, want)
	}
}

// P4.2: labels of a known connection, those of RFC 9001's appendix A.1.
func TestKnownLabels(t *testing.T) {
	k := kdf.New()
	s := k.Extract(fromHex(t, "38762cf7f55934b34d179ae6a4c80cadccbb7f0a"), fromHex(t, "8394c8f03e515708"))
	expectHex(t, "initial secret", s[:], api.OK, "7db5df06e7a69e432496adedb00851923595221596ae2ae9fb8115c1e9ed0a44")
	cases := []struct{ label, secret, key, iv, hp string }{
		{
			"client in", "c00cf151ca5be075ed0ebfb5c80323c42d6b7db67881289af4008f1f6c357aea",
			"1f369613dd76d5467730efcbe3b1a22d", "fa044b2f42a3fd3b46fb255c", "9f50449e04a0e810283a1e9933adedd2",
		},
		{
			"server in", "3c199828fd139efd216c155ad844cc81fb82fa8d7446fa7d78be803acdda951b",
			"cf3a5331653c364c88f0f379b6067e37", "0ac1493ca1905853b0bba03e", "c206b8d9b9f0f37644430b490eeaa314",
		},
	}
	for _, c := range cases {
		b, e := k.Label(s, c.label, nil, 32)
		expectHex(t, c.label, b, e, c.secret)
		side := secret(t, c.secret)
		b, e = k.Label(side, "quic key", nil, 16)
		expectHex(t, c.label+", key", b, e, c.key)
		b, e = k.Label(side, "quic iv", nil, 12)
		expectHex(t, c.label+", iv", b, e, c.iv)
		b, e = k.Label(side, "quic hp", []byte{}, 16)
		expectHex(t, c.label+", hp", b, e, c.hp)
	}
}

// P4.2: secrets of a known handshake of TLS 1.3, that of RFC 8448's chapter 3.
func TestKnownSecrets(t *testing.T) {
	k := kdf.New()
	early := k.Extract(nil, make([]byte, 32))
	expectHex(t, "early", early[:], api.OK, "33ad0a1c607ec03b09e6cd9893680ce210adf300aa1f2660e1b22e10f170f92a")
	derived := k.Derive(early, "derived", nil)
	expectHex(t, "derived", derived[:], api.OK, "6f2615a108c702c5678f54fc9dbab69716c076189c48250cebeac3576c3611ba")
	hand := k.Extract(derived[:], fromHex(t, "8bd4054fb55b9d63fdfbacf9f04b9f0d35e6d63f537563efd46272900f89492d"))
	expectHex(t, "handshake", hand[:], api.OK, "1dc826e93606aa6fdc0aadc12f741b01046aa6b99f691ed221a9f0ca043fbeac")
	again := k.Derive(hand, "derived", []byte{})
	expectHex(t, "derived once more", again[:], api.OK, "43de77e0c77713859a944db9db2590b53190a65b3ee2e4f12dd7a0bb7ce254b4")
	master := k.Extract(again[:], make([]byte, 32))
	expectHex(t, "master", master[:], api.OK, "18df06843d13a08bf2a449844c5f8a478001bc4d4c627984d5a41da8d0402919")
	server := secret(t, "b67b7d690cc16c4e75e54213cb2d37b4e9c912bcded9105d42befd59d391ad38")
	b, e := k.Label(server, "key", nil, 16)
	expectHex(t, "key", b, e, "3fce516009c21727d0f2e4e86ee403bc")
	b, e = k.Label(server, "iv", nil, 12)
	expectHex(t, "iv", b, e, "5d313eb2671276ee13000b30")
}

// P4.2: secrets of what was said so far, from NIST's ACVP server (TLS-v1.3-KDF-RFC8446).
func TestKnownDerived(t *testing.T) {
	k := kdf.New()
	said := fromHex(t, "e9137679e582ba7c1db41cf725f86c6d09c8c05f297bad9a65b552eaf524fde4")
	expect := func(s kdf.Secret, label, want string) {
		t.Helper()
		got := k.Derive(s, label, said)
		expectHex(t, label, got[:], api.OK, want)
	}
	early := k.Extract(nil, fromHex(t, "56288b726c73829f7a3e47b103837c8139acf552e7530c7a710b35ed41191698"))
	expect(early, "c e traffic", "3272189698c3594d18f58efa3f12b638a249515099be7a2fa9836babe74f0111")
	expect(early, "e exp master", "88e078f562cdc930219f6a5e98a1ce8c6e5f3dac5ac516459a96f2ef8f114c66")
	derived := k.Derive(early, "derived", nil)
	hand := k.Extract(derived[:], fromHex(t, "effe9ec26aa29fd750dfa6a10b944d74071595b27ee88887d5e11c84590b5cc3"))
	said = append(said, fromHex(t, "23eccfd030790748c8f8d8a656fd98d717f1b62af3712f97211d2070b499f98a")...)
	expect(hand, "c hs traffic", "b32306c3ce9932c460a1fe6c0f060593974842036b96fa45049b7352e71c2ad2")
	expect(hand, "s hs traffic", "22787f8ca269d34bc549ac8ba19f2040938a3aa370d7cc9d60f720882b88d01b")
	derived = k.Derive(hand, "derived", nil)
	master := k.Extract(derived[:], make([]byte, 32))
	said = append(said, fromHex(t, "c750eda6696cd101b142bd79e00e6ac8c5f2c0abc78dd64f4d991326659e9299")...)
	expect(master, "c ap traffic", "47d7ea08397b5871154b0fe85584bcc30a87c69e84d69b56007c5b21f76493ba")
	expect(master, "s ap traffic", "efbdb0c873c0480da57307083839a8984be25b9a8545e4fca029940fe2800565")
	expect(master, "exp master", "8a43d787ee3804ead4a2a5b32972f9896b696295645d7222e1fd081ddd939834")
	said = append(said, fromHex(t, "62a62fa75563ed4fdcaa0bc16567b314871c304acf06b0ffc3f08c1797594d43")...)
	expect(master, "res master", "5f4c961329c91044011acbecb0b289282e0e3fed045cb3ea924dffe5fe654b3d")
}
