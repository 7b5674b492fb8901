package letter_test

import (
	"math/big"
	"math/rand"
	"slices"
	"strconv"
	"strings"
	"testing"

	"signet/api"
	"signet/code"
	"signet/letter"
)

// letsBy issues a letter and verifies it (P10).
func letsBy(t *testing.T, set, kid, body string) string {
	t.Helper()
	s, e := letter.Issue(set, kid, body)
	if e != api.OK {
		t.Fatalf("P10: Issue(.., %q, %.100q): %d", kid, body, e)
	}
	form, _ := code.Form(body)
	if got, e := letter.Verify(set, s, api.Asked{Leeway: 1}, 0); got != (api.Claims{Kid: kid, Body: form}) || e != api.OK {
		t.Errorf("P10: Verify of what Issue gave for %q, %.100q: %+v, %d", kid, body, got, e)
	}
	return s
}

func TestIssuedLettersAreLetBy(t *testing.T) {
	for _, body := range rightBodies() {
		letsBy(t, octKeys, "h", body)
	}
	for _, body := range []string{"{}", ` {"b":1,"a":{"b":[],"a":null}}`, `{"aud":["a"],"iss":"i","exp":9007199254740991,"nbf":-9007199254740991}`} {
		letsBy(t, keys, "h", body)
		s := letsBy(t, keys, "e", body)
		if _, e := letter.Verify(setOf(openKey.with("kid", `"e"`)), s, api.Asked{}, 0); e != api.OK {
			t.Errorf("P10: Verify with the public key alone: %d", e)
		}
	}
}

// The one form of a body may be longer than the body, and so may that of a kid.
func TestIssuedLettersWithLongFormsAreLetBy(t *testing.T) {
	kid := strings.Repeat("\x1f", api.MaxKid)
	set := setOf(octKey.with("kid", quoted(kid)), okpKey)
	for _, body := range []string{
		`{"x":"` + strings.Repeat(`\n`, 496) + `"}`,
		`{"` + strings.Repeat(`\t`, 496) + `":1}`,
		filled(`{"x":"`+strings.Repeat(`\b`, 496)+`"}`, api.MaxBody),
		filled("{}", api.MaxBody),
		`{"x":"` + strings.Repeat("\U0001f511", 248) + `"}`,
		`{"x":[` + strings.Repeat("1,", 495) + `1]}`,
	} {
		letsBy(t, set, kid, body)
		letsBy(t, set, "e", body)
	}
}

// anyText is JSON of a string of a few runes, of all sorts.
func anyText(r *rand.Rand) string {
	runes := []rune("\x00\n\x1f \"\\/abe.\x7f\u00e4\u2028\ufffd\U0001f511")
	var out []rune
	for range r.Intn(6) {
		out = append(out, runes[r.Intn(len(runes))])
	}
	return quoted(string(out))
}

// anyValue is JSON with brackets at most so deep.
func anyValue(r *rand.Rand, depth int) string {
	var parts []string
	switch kind := r.Intn(6); {
	case depth > 0 && kind == 0:
		for range r.Intn(4) {
			parts = append(parts, anyValue(r, depth-1))
		}
		return "[" + strings.Join(parts, " , ") + "]"
	case depth > 0 && kind == 1:
		for i := range r.Intn(4) {
			parts = append(parts, quoted(strconv.Itoa(i)+strings.Trim(anyText(r), `"`))+":"+anyValue(r, depth-1))
		}
		return "{" + strings.Join(parts, ", ") + "}"
	case kind == 2:
		return strconv.FormatInt(r.Int63n(1<<54-1)-(1<<53-1), 10)
	case kind == 3:
		return []string{"null", "true", "false"}[r.Intn(3)]
	}
	return anyText(r)
}

func TestIssuedLettersOfAllSortsAreLetBy(t *testing.T) {
	r := rand.New(rand.NewSource(4))
	for i := range 2000 {
		body := members{"v": anyValue(r, 7), "iss": anyText(r)}.String()
		if len(body) > api.MaxBody {
			continue
		}
		kid := string([]rune("\x01\"\\.\u00e4z"))[:1+r.Intn(4)]
		set := setOf(octKey.with("kid", quoted(kid)).with("k", quoted(b64(strings.Repeat("\x80", 32+i%33)))))
		letsBy(t, set, kid, body)
	}
}

// P11: each part has one text alone.
func TestLettersHaveOneText(t *testing.T) {
	set := setOf(octKey, openKey.with("kid", `"e"`)) // without a seed it is read faster
	bodies := []string{"{}", `{"a":1}`, `{"ab":1}`, `{"abc":1}`}
	for i, head := range []string{octHead, octHead + " ", octHead + "  "} {
		letters := []string{maced(head, bodies[i]), sealed(strings.Replace(strings.Replace(head, "HS256", "EdDSA", 1), `"h"`, `"e"`, 1), bodies[i+1])}
		for _, s := range letters {
			if _, e := letter.Verify(set, s, api.Asked{}, 0); e != api.OK {
				t.Fatalf("P11: Verify(.., %q): %d", s, e)
			}
			parts := strings.Split(s, ".")
			for at, part := range parts {
				for _, wrong := range spoilt(unb64(part)) {
					other := slices.Clone(parts)
					other[at] = wrong
					if got, e := letter.Verify(set, strings.Join(other, "."), api.Asked{}, 0); got != (api.Claims{}) || e == api.OK {
						t.Errorf("P11: %q is let by beside %q", strings.Join(other, "."), s)
					}
				}
			}
		}
	}
}

// The same bits at a base64's end are refused as such, not for their signature.
func TestBitsLeftOverAreNoLetter(t *testing.T) {
	for _, s := range []string{maced(octHead, "{}"), sealed(okpHead, "{}")} {
		left := 4
		if strings.HasPrefix(s, b64(okpHead)) {
			left = 16
		}
		const sixes = "ABCDEFGHIJKLMNOPQRSTUVWXYZabcdefghijklmnopqrstuvwxyz0123456789-_"
		last := strings.IndexByte(sixes, s[len(s)-1])
		for more := 1; more < left; more++ {
			verifyFails(t, s[:len(s)-1]+string(sixes[last+more]), api.Asked{}, 0, api.ErrForm)
		}
	}
}

// P12: no other signature holds beside the mac.
func TestMacsHaveNoTwin(t *testing.T) {
	signed := b64(octHead) + "." + b64("{}")
	right := macOf(secret, signed)
	wrong := []string{"", right + "\x00", "\x00" + right, right + right, right[:31], right[1:], right[:16], macOf("", signed), macOf(secret+"x", signed), strings.Repeat("\x00", 32), strings.Repeat("\xff", 32)}
	for bit := range 8 * len(right) {
		b := []byte(right)
		b[bit/8] ^= 1 << (bit % 8)
		wrong = append(wrong, string(b))
	}
	for at := range right {
		for next := at + 1; next < len(right); next++ {
			b := []byte(right) // two bytes with the same bit turned
			b[at] ^= 64
			b[next] ^= 64
			wrong = append(wrong, string(b))
		}
	}
	for _, signature := range wrong {
		if got, e := letter.Verify(octKeys, signed+"."+b64(signature), api.Asked{}, 0); got != (api.Claims{}) || e != api.ErrSign {
			t.Errorf("P12: Verify with the mac %x: %+v, %d", signature, got, e)
		}
	}
}

// P12: no other S holds beside the right one.
func TestSealsHaveNoTwin(t *testing.T) {
	set := setOf(openKey.with("kid", `"e"`))
	s := sealed(okpHead, "{}")
	signed, last := s[:strings.LastIndex(s, ".")], unb64(s[strings.LastIndex(s, ".")+1:])
	if _, e := letter.Verify(set, s, api.Asked{}, 0); e != api.OK {
		t.Fatalf("P12: Verify(.., %q): %d", s, e)
	}
	refused := func(signature string) {
		t.Helper()
		if got, e := letter.Verify(set, signed+"."+b64(signature), api.Asked{}, 0); got != (api.Claims{}) || e != api.ErrSign {
			t.Errorf("P12: Verify with the signature %x: %+v, %d", signature, got, e)
		}
	}
	order, _ := new(big.Int).SetString("27742317777372353535851937790883648493", 10)
	order.Add(order, new(big.Int).Lsh(big.NewInt(1), 252))
	b := []byte(last[32:])
	slices.Reverse(b)
	scalar := new(big.Int).SetBytes(b)
	for more := scalar.Add(scalar, order); more.BitLen() <= 256; more.Add(more, order) {
		b := more.FillBytes(make([]byte, 32))
		slices.Reverse(b)
		refused(last[:32] + string(b))
	}
	for bit := 0; bit < 8*len(last); bit += 3 {
		b := []byte(last)
		b[bit/8] ^= 1 << (bit % 8)
		refused(string(b))
	}
	for _, wrong := range []string{"", last[:63], last[1:], last + "\x00", last[:32], last[32:] + last[:32], strings.Repeat("\x00", 64)} {
		refused(wrong)
	}
}
