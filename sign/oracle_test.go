package sign_test

import (
	"crypto/ed25519"
	"encoding/hex"
	"math/rand"
	"strings"
	"testing"

	"signet/api"
	"signet/curve"
	"signet/sign"
)

func unhex(s string) string {
	b, err := hex.DecodeString(s)
	if err != nil {
		panic(err)
	}
	return string(b)
}

func someBytes(r *rand.Rand, n int) string {
	b := make([]byte, n)
	r.Read(b)
	return string(b)
}

// made is what the program makes of a seed and a text; it is held against the library of Go.
func made(t *testing.T, seed, s string) (public, signature string) {
	t.Helper()
	key := ed25519.NewKeyFromSeed([]byte(seed))
	public, e := sign.Public(seed)
	if want := string(key.Public().(ed25519.PublicKey)); public != want || e != api.OK {
		t.Fatalf("P6: Public(%x) = %x, %d, want %x", seed, public, e, want)
	}
	signature, e = sign.Sign(seed, s)
	if want := string(ed25519.Sign(key, []byte(s))); signature != want || e != api.OK {
		t.Fatalf("P6: Sign(%x, %.80q) = %x, %d, want %x", seed, s, signature, e, want)
	}
	return public, signature
}

// holds is what the library of Go says, with points' bytes taken as the document has them: the library takes a public key in a second form too.
func holds(public, s, signature string) bool {
	if len(public) != 32 || len(signature) != 64 {
		return false
	}
	if _, ok := curve.New().Read(public); !ok {
		return false
	}
	return ed25519.Verify(ed25519.PublicKey(public), []byte(s), []byte(signature))
}

func check(t *testing.T, public, s, signature string) bool {
	t.Helper()
	got := sign.Holds(public, s, signature)
	if want := holds(public, s, signature); got != want {
		t.Errorf("P6: Holds(%x, %.80q, %x) is %t", public, s, signature, got)
	}
	return got
}

func TestKnownAnswers(t *testing.T) {
	for _, c := range []struct{ seed, public, text, signature string }{
		{
			"9d61b19deffd5a60ba844af492ec2cc44449c5697b326919703bac031cae7f60",
			"d75a980182b10ab7d54bfed3c964073a0ee172f3daa62325af021a68f707511a",
			"",
			"e5564300c360ac729086e2cc806e828a84877f1eb8e5d974d873e065224901555fb8821590a33bacc61e39701cf9b46bd25bf5f0595bbe24655141438e7a100b",
		}, {
			"4ccd089b28ff96da9db6c346ec114e0f5b8a319f35aba624da8cf6ed4fb8a6fb",
			"3d4017c3e843895a92b70aa74d1b7ebc9c982ccf2ec4968cc0cd55f12af4660c",
			"72",
			"92a009a9f0d4cab8720e820b5f642540a2b27b5416503f8fb3762223ebdb69da085ac1e43e15996e458f3613d0f11d8c387b2eaeb4302aeeb00d291612bb0c00",
		}, {
			"c5aa8df43f9f837bedb7442f31dcb7b166d38535076f094b85ce3a2e0b4458f7",
			"fc51cd8e6218a1a38da47ed00230f0580816ed13ba3303ac5deb911548908025",
			"af82",
			"6291d657deec24024827e69c3abe01a30ce548a284743a445e3680d7db5ac3ac18ff9b538d16f290ae67f760984dc6594a7c15e9716ed28dc027beceea1ec40a",
		},
	} {
		public, signature := made(t, unhex(c.seed), unhex(c.text))
		if public != unhex(c.public) || signature != unhex(c.signature) {
			t.Errorf("P6: of the seed %s the public key is %x, the signature %x", c.seed, public, signature)
		}
		if !sign.Holds(public, unhex(c.text), signature) {
			t.Errorf("P6: the signature of the seed %s does not hold", c.seed)
		}
	}
}

func TestSeedsAndTexts(t *testing.T) {
	r := rand.New(rand.NewSource(1))
	seeds := []string{strings.Repeat("\x00", 32), strings.Repeat("\xff", 32), strings.Repeat("\x80", 32)}
	for len(seeds) < 40 {
		seeds = append(seeds, someBytes(r, 32))
	}
	for n, seed := range seeds {
		s := someBytes(r, 5*n)
		public, signature := made(t, seed, s)
		if !sign.Holds(public, s, signature) {
			t.Errorf("P6: what is signed with %x does not hold", seed)
		}
	}
	made(t, seeds[0], strings.Repeat("long ", 1<<16))
}

// TestOneBitTurned: a signature holds for one key and one text alone. Every third bit is enough, so that all places of a byte come by.
func TestOneBitTurned(t *testing.T) {
	r := rand.New(rand.NewSource(2))
	s := someBytes(r, 20)
	public, signature := made(t, someBytes(r, 32), s)
	all := public + s + signature
	for bit := 0; bit < 8*len(all); bit += 3 {
		b := []byte(all)
		b[bit/8] ^= 1 << (bit % 8)
		turned := string(b)
		if check(t, turned[:32], turned[32:52], turned[52:]) {
			t.Errorf("P6: it holds with the bit %d turned", bit)
		}
	}
}

func TestOtherKeysAndTexts(t *testing.T) {
	r := rand.New(rand.NewSource(3))
	public, signature := made(t, someBytes(r, 32), "text")
	otherPublic, otherSignature := made(t, someBytes(r, 32), "text")
	for _, c := range []struct{ public, s, signature string }{
		{otherPublic, "text", signature},
		{public, "text", otherSignature},
		{public, "text ", signature},
		{public, "tex", signature},
		{public, "", signature},
		{public, "text", otherSignature[:32] + signature[32:]},
		{public, "text", signature[:32] + otherSignature[32:]},
		{public, "text", signature[32:] + signature[:32]},
	} {
		if sign.Holds(c.public, c.s, c.signature) {
			t.Errorf("P6: Holds(%x, %q, %x)", c.public, c.s, c.signature)
		}
	}
}

func FuzzSign(f *testing.F) {
	f.Add(strings.Repeat("a", 32), "text", 0)
	f.Add("\x00", "", 300)
	f.Fuzz(func(t *testing.T, seed, s string, turned int) {
		seed = (seed + strings.Repeat("\x00", 32))[:32]
		public, signature := made(t, seed, s)
		if !check(t, public, s, signature) {
			t.Errorf("P6: what is signed with %x does not hold", seed)
		}
		b := []byte(public + signature)
		bit := uint(turned) % uint(8*len(b))
		b[bit/8] ^= 1 << (bit % 8)
		check(t, string(b[:32]), s, string(b[32:]))
	})
}
