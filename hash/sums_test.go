package hash_test

import (
	"crypto/hmac"
	"crypto/sha256"
	"crypto/sha512"
	"encoding/hex"
	"math/rand"
	"strings"
	"testing"

	"signet/hash"
)

func library256(s string) string {
	b := sha256.Sum256([]byte(s))
	return string(b[:])
}

func library512(s string) string {
	b := sha512.Sum512([]byte(s))
	return string(b[:])
}

func libraryMac(key, s string) string {
	m := hmac.New(sha256.New, []byte(key))
	m.Write([]byte(s))
	return string(m.Sum(nil))
}

// sums holds both sums of a text against the library's.
func sums(t *testing.T, s string) {
	t.Helper()
	if got, want := hash.Sum256(s), library256(s); got != want {
		t.Errorf("P5: Sum256(%.80q), %d bytes: %x, want %x", s, len(s), got, want)
	}
	if got, want := hash.Sum512(s), library512(s); got != want {
		t.Errorf("P5: Sum512(%.80q), %d bytes: %x, want %x", s, len(s), got, want)
	}
}

func mac(t *testing.T, key, s string) {
	t.Helper()
	if got, want := hash.Mac(key, s), libraryMac(key, s); got != want {
		t.Errorf("P5: Mac(%.80q, %.80q), %d and %d bytes: %x, want %x", key, s, len(key), len(s), got, want)
	}
}

// someBytes is a text of n bytes that looks like none.
func someBytes(r *rand.Rand, n int) string {
	b := make([]byte, n)
	r.Read(b)
	return string(b)
}

func TestKnownSums(t *testing.T) {
	twoBlocks := "abcdbcdecdefdefgefghfghighijhijkijkljklmklmnlmnomnopnopq"
	for _, c := range []struct{ s, sum256, sum512 string }{
		{"",
			"e3b0c44298fc1c149afbf4c8996fb92427ae41e4649b934ca495991b7852b855",
			"cf83e1357eefb8bdf1542850d66d8007d620e4050b5715dc83f4a921d36ce9ce47d0d13c5d85f2b0ff8318d2877eec2f63b931bd47417a81a538327af927da3e"},
		{"abc",
			"ba7816bf8f01cfea414140de5dae2223b00361a396177a9cb410ff61f20015ad",
			"ddaf35a193617abacc417349ae20413112e6fa4e89a97ea20a9eeee64b55d39a2192992a274fc1a836ba3c23a3feebbd454d4423643ce80e2a9ac94fa54ca49f"},
		{twoBlocks,
			"248d6a61d20638b8e5c026930c3e6039a33ce45964ff2167f6ecedd419db06c1",
			"204a8fc6dda82f0a0ced7beb8e08a41657c16ef468b228a8279be331a703c33596fd15c13b1b07f9aa1d3bea57789ca031ad85c7a71dd70354ec631238ca3445"},
		{strings.Repeat("a", 1000000),
			"cdc76e5c9914fb9281a1c7e284d73e67f1809a48a497200e046d39ccc7112cd0",
			"e718483d0ce769644e2e42c7bc15b4638e1f98b13b2044285632a803afa973ebde0ff244877ea60a4cb0432ce577c31beb009c5c2c49aa2e4eadb217ad8cc09b"},
	} {
		if got := hex.EncodeToString([]byte(hash.Sum256(c.s))); got != c.sum256 {
			t.Errorf("P5: Sum256(%.80q) = %s, want %s", c.s, got, c.sum256)
		}
		if got := hex.EncodeToString([]byte(hash.Sum512(c.s))); got != c.sum512 {
			t.Errorf("P5: Sum512(%.80q) = %s, want %s", c.s, got, c.sum512)
		}
	}
}

func TestKnownMacs(t *testing.T) {
	for _, c := range []struct{ key, s, want string }{
		{"key", "The quick brown fox jumps over the lazy dog", "f7bc83f430538424b13298e6aa6fb143ef4d59a14946175997479dbc2d1a3cd8"},
		{"", "", "b613679a0814d9ec772f95d778c35fc5ff1697c493715653c6c712144292c5ad"},
		{strings.Repeat("\x0b", 20), "Hi There", "b0344c61d8db38535ca8afceaf0bf12b881dc200c9833da726e9376c2e32cff7"},
		{"Jefe", "what do ya want for nothing?", "5bdcc146bf60754e6a042426089575c75a003f089d2739839dec58b964ec3843"},
		{strings.Repeat("\xaa", 131), "Test Using Larger Than Block-Size Key - Hash Key First", "60e431591ee0b67f0d8a26aacbf5b77f8e0bc6213728c5140546040f0ee37f54"},
	} {
		if got := hex.EncodeToString([]byte(hash.Mac(c.key, c.s))); got != c.want {
			t.Errorf("P5: Mac(%.80q, %q) = %s, want %s", c.key, c.s, got, c.want)
		}
	}
}

// Each length against the blocks of 64 and 128 bytes: where the count of the bits still fits behind the text, and where it does not.
func TestSumsAtEveryLength(t *testing.T) {
	r := rand.New(rand.NewSource(1))
	for n := range 1100 {
		sums(t, someBytes(r, n))
	}
}

func TestSumsOfEveryByte(t *testing.T) {
	for i := range 256 {
		one := string([]byte{byte(i)})
		for _, n := range []int{1, 55, 56, 63, 64, 65, 111, 112, 127, 128, 129} {
			sums(t, strings.Repeat(one, n))
		}
	}
}

func TestSumsOfLongTexts(t *testing.T) {
	r := rand.New(rand.NewSource(2))
	for _, n := range []int{4000, 6000, 1<<13 - 1, 1 << 13, 1<<16 - 9, 1 << 16, 1<<16 + 1, 1<<20 - 17, 1 << 20, 1<<20 + 55} {
		sums(t, someBytes(r, n))
	}
}

func TestMacsAtEveryLengthOfKey(t *testing.T) {
	r := rand.New(rand.NewSource(3))
	for n := range 300 {
		key := someBytes(r, n)
		for _, m := range []int{0, 1, 55, 56, 63, 64, 65, 128, n} {
			mac(t, key, someBytes(r, m))
		}
	}
}

func TestMacsAtEveryLengthOfText(t *testing.T) {
	r := rand.New(rand.NewSource(4))
	for n := range 300 {
		for _, k := range []int{0, 1, 32, 63, 64, 65, 200} {
			mac(t, someBytes(r, k), someBytes(r, n))
		}
	}
}

func TestMacsOfLongTexts(t *testing.T) {
	r := rand.New(rand.NewSource(5))
	for _, n := range []int{4000, 6000, 1 << 16, 1<<20 + 1} {
		mac(t, someBytes(r, 32), someBytes(r, n))
		mac(t, someBytes(r, n), someBytes(r, 32))
		mac(t, someBytes(r, n), someBytes(r, n))
	}
}

// Noughts fill a key up to 64 bytes, and a longer key stands for its sum.
func TestKeysThatAreAlike(t *testing.T) {
	r := rand.New(rand.NewSource(6))
	for n := range 130 {
		key, s := someBytes(r, n)+"k", someBytes(r, n)
		same := hash.Mac(key, s) == hash.Mac(key+"\x00", s)
		if want := len(key) < 64; same != want {
			t.Errorf("P5: Mac with a key of %d bytes and with a nought behind it alike: %v", len(key), same)
		}
		if len(key) > 64 && hash.Mac(key, s) != hash.Mac(hash.Sum256(key), s) {
			t.Errorf("P5: Mac with a key of %d bytes and with its sum differ", len(key))
		}
	}
}

func FuzzSums(f *testing.F) {
	f.Add("", "")
	f.Add("key", "The quick brown fox jumps over the lazy dog")
	f.Fuzz(func(t *testing.T, key, s string) {
		sums(t, s)
		mac(t, key, s)
	})
}
