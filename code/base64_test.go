package code_test

import (
	"encoding/base64"
	"math/rand"
	"strings"
	"testing"

	"signet/api"
	"signet/code"
)

func TestEncodeExamples(t *testing.T) {
	for b, want := range map[string]string{
		"":                 "",
		"f":                "Zg",
		"fo":               "Zm8",
		"foo":              "Zm9v",
		"foob":             "Zm9vYg",
		"\xff\xff\xfe":     "___-",
		"\x00":             "AA",
		"\x00\x00":         "AAA",
		"\x00\x00\x00":     "AAAA",
		"\xff":             "_w",
		"\xff\xff":         "__8",
		"\xff\xff\xff\xff": "_____w",
	} {
		if s := code.Encode(b); s != want {
			t.Errorf("P3: Encode(%x) = %q, want %q", b, s, want)
		}
		checkDecode(t, want, b, api.OK)
	}
}

func TestEveryShortText(t *testing.T) {
	for i := range 256 {
		checkRoundTrip(t, string([]byte{byte(i)}))
		for j := range 256 {
			checkRoundTrip(t, string([]byte{byte(i), byte(j)}))
		}
	}
}

func TestLongTexts(t *testing.T) {
	r := rand.New(rand.NewSource(2))
	for size := range 300 {
		b := make([]byte, size)
		r.Read(b)
		checkRoundTrip(t, string(b))
	}
	b := make([]byte, 1<<20+1)
	r.Read(b)
	checkRoundTrip(t, string(b))
}

// Of all texts of up to three bytes, those that Decode takes are just those that Encode gives.
func TestDecodeEveryShortText(t *testing.T) {
	for i := range 256 {
		checkAgainstLibrary(t, string([]byte{byte(i)}))
		for j := range 256 {
			checkAgainstLibrary(t, string([]byte{byte(i), byte(j)}))
		}
	}
	const some = "AQgBCDEZaz09-_=+/. \n\x00\x80"
	for _, a := range []byte(some) {
		for _, b := range []byte(some) {
			for c := range 256 {
				checkAgainstLibrary(t, string([]byte{a, b, byte(c)}))
				checkAgainstLibrary(t, string([]byte{'A', a, b, byte(c)}))
			}
		}
	}
}

func TestDecodeWrongTexts(t *testing.T) {
	for _, s := range []string{
		"Z", "Zh", "AAAAA", "AAAA_", "Zg=", "Zg==", "=", "====", "Zm9v=", "Zm9v====",
		"Zm9", "AB", "AAB", "AAAAAB", "AAAAAAB", "+/", "Zm+v", "Zm/v", "Zm9v\n", "\nZm9v", "Zm\r9v",
		" Zm9v", "Zm 9v", "Zm9v\x00", "Zm9v.", "Z\u00e4", "\xff\xff", "AAA\xc1", "\uff21AAA",
	} {
		checkDecode(t, s, "", api.ErrForm)
	}
	checkDecode(t, strings.Repeat("A", 100001), "", api.ErrForm)
	checkDecode(t, strings.Repeat("A", 100000)+"=", "", api.ErrForm)
}

func FuzzDecode(f *testing.F) {
	f.Add("")
	f.Add("Zm9v")
	f.Add("Zh")
	f.Fuzz(func(t *testing.T, s string) {
		checkAgainstLibrary(t, s)
		checkRoundTrip(t, s)
	})
}

func checkRoundTrip(t *testing.T, b string) {
	t.Helper()
	want := base64.RawURLEncoding.EncodeToString([]byte(b))
	s := code.Encode(b)
	if s != want {
		t.Errorf("P3: Encode(%.80x) = %.80q, want %.80q", b, s, want)
	}
	checkDecode(t, s, b, api.OK)
}

func checkDecode(t *testing.T, s, want string, wantErr api.Errno) {
	t.Helper()
	if b, e := code.Decode(s); b != want || e != wantErr {
		t.Errorf("P3: Decode(%.80q) = %.80x, %d, want %.80x, %d", s, b, e, want, wantErr)
	}
}

func checkAgainstLibrary(t *testing.T, s string) {
	t.Helper()
	b, err := base64.RawURLEncoding.Strict().DecodeString(s)
	// The library passes over ends of lines even where it is strict.
	if err != nil || strings.ContainsAny(s, "\r\n") {
		checkDecode(t, s, "", api.ErrForm)
		return
	}
	checkDecode(t, s, string(b), api.OK)
}
