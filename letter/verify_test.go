package letter_test

import (
	"math"
	"math/big"
	"strconv"
	"strings"
	"testing"

	"signet/api"
	"signet/letter"
)

func verifies(t *testing.T, s string, asked api.Asked, want api.Claims) {
	t.Helper()
	if got, e := letter.Verify(keys, s, asked, 0); got != want || e != api.OK {
		t.Errorf("P9: Verify(.., %.300q, %+v) = %+v, %d, want %+v", s, asked, got, e, want)
	}
}

func verifyFails(t *testing.T, s string, asked api.Asked, now int, want api.Errno) {
	t.Helper()
	if got, e := letter.Verify(keys, s, asked, now); got != (api.Claims{}) || e != want {
		t.Errorf("P9: Verify(.., %.300q, %+v, %d) = %+v, %d, want %d", s, asked, now, got, e, want)
	}
}

func TestVerifyGivesTheClaims(t *testing.T) {
	for body, form := range map[string]string{
		"{}":                       "{}",
		`{"b":1, "a":"\u0041\n" }`: `{"a":"A\u000a","b":1}`,
		`{"aud":["x"],"iss":"y"}`:  `{"aud":["x"],"iss":"y"}`,
	} {
		verifies(t, maced(octHead, body), api.Asked{}, api.Claims{Kid: "h", Body: form})
		verifies(t, sealed(okpHead, body), api.Asked{}, api.Claims{Kid: "e", Body: form})
		verifies(t, sealed(`{"alg":"EdDSA","kid":"o"}`, body), api.Asked{}, api.Claims{Kid: "o", Body: form})
		verifies(t, maced(` { "typ" : "JWT", "x":[1], "kid":"\u0068" , "alg":"HS256"}`+"\n", body), api.Asked{}, api.Claims{Kid: "h", Body: form})
	}
}

func TestVerifyAsksTheSignatureAheadOfTheBody(t *testing.T) {
	verifyFails(t, maced(octHead, "no body"), api.Asked{}, 0, api.ErrBody)
	verifyFails(t, sealed(okpHead, "no body"), api.Asked{}, 0, api.ErrBody)
	verifyFails(t, maced(okpHead, "no body"), api.Asked{}, 0, api.ErrSign)
	verifyFails(t, sealed(octHead, "no body"), api.Asked{}, 0, api.ErrSign)
}

func TestVerifyBoundsTheLetter(t *testing.T) {
	full := maced(filled(octHead, 3000), filled("{}", 1466))
	over := maced(filled(octHead, 3000), filled("{}", 1467))
	if len(full) != api.MaxLetter || len(over) != api.MaxLetter+1 {
		t.Fatalf("letters of %d and %d bytes", len(full), len(over))
	}
	verifies(t, full, api.Asked{}, api.Claims{Kid: "h", Body: "{}"})
	verifyFails(t, over, api.Asked{}, 0, api.ErrLong)
	verifyFails(t, strings.Repeat("A", api.MaxLetter), api.Asked{}, 0, api.ErrForm)
	verifyFails(t, strings.Repeat(".", api.MaxLetter), api.Asked{}, 0, api.ErrForm)
	verifyFails(t, strings.Repeat(".", api.MaxLetter+1), api.Asked{}, 0, api.ErrLong)
	verifyFails(t, strings.Repeat(".", 1<<20), api.Asked{}, 0, api.ErrLong)
}

// A head or a body of more than 4000 bytes is no JSON, even if the letter is not too long.
func TestVerifyBoundsHeadAndBody(t *testing.T) {
	verifies(t, maced(filled(octHead, api.MaxText), "{}"), api.Asked{}, api.Claims{Kid: "h", Body: "{}"})
	verifyFails(t, maced(filled(octHead, api.MaxText+1), "{}"), api.Asked{}, 0, api.ErrHead)
	verifies(t, maced(octHead, filled("{}", api.MaxText)), api.Asked{}, api.Claims{Kid: "h", Body: "{}"})
	verifyFails(t, maced(octHead, filled("{}", api.MaxText+1)), api.Asked{}, 0, api.ErrBody)
	long := `{"x":"` + strings.Repeat(`\n`, 1996) + `"}`
	verifies(t, maced(octHead, long), api.Asked{}, api.Claims{Kid: "h", Body: strings.ReplaceAll(long, `\n`, `\u000a`)})
}

func TestVerifyTakesJustThreeBase64s(t *testing.T) {
	good := maced(octHead, "{}")
	parts := strings.Split(good, ".")
	for _, s := range []string{
		"", ".", "...", "A..", ".A.", "..A", "....", good + ".", "." + good, good + "=", " " + good, good + "\n", good + "." + parts[2],
		parts[0], parts[0] + "." + parts[1], parts[0] + parts[1] + "." + parts[2], parts[0] + "..." + parts[2],
		strings.Replace(good, ".", ",", 1), strings.Replace(good, ".", "..", 1), strings.ToUpper(good[:3]) + "+" + good[4:],
		parts[0] + "=." + parts[1] + "." + parts[2], parts[0] + "." + parts[1] + "=." + parts[2], parts[0] + ".e31." + parts[2] + "/",
		`{"payload":"e30"}`, "\xff.\xff.\xff",
	} {
		verifyFails(t, s, api.Asked{}, 0, api.ErrForm)
	}
	verifyFails(t, "..", api.Asked{}, 0, api.ErrHead)
	verifyFails(t, "e30..", api.Asked{}, 0, api.ErrHead)
	verifyFails(t, parts[0]+"..", api.Asked{}, 0, api.ErrSign)
	verifyFails(t, maced(octHead, ""), api.Asked{}, 0, api.ErrBody)
}

func TestVerifyTakesJustHeads(t *testing.T) {
	right := members{"alg": `"HS256"`, "kid": `"h"`}
	wrong := []string{"", " ", "x", "null", "[]", `"x"`, "[" + octHead + "]", octHead + "x", octHead[1:], octHead + octHead, `{"alg":"HS256","alg":"HS256","kid":"h"}`, "{}",
		right.without("alg").String(), right.without("kid").String(), right.without("alg").with("Alg", `"HS256"`).String(), right.without("kid").with("KID", `"h"`).String()}
	for name := range right {
		for _, value := range wrongKinds("string") {
			wrong = append(wrong, right.with(name, value).String())
		}
	}
	for _, value := range append(wrongKinds(), `""`, `"jwt"`, `"JWT "`, `"JOSE"`, `["JWT"]`) {
		wrong = append(wrong, right.with("typ", value).String())
	}
	for _, head := range wrong {
		verifyFails(t, maced(head, "{}"), api.Asked{}, 0, api.ErrHead)
	}
	for _, value := range wrongKinds() {
		for _, name := range []string{"x", "TYP", "Crit", "jwk", "", "exp", "k"} {
			verifies(t, maced(right.with(name, value).String(), "{}"), api.Asked{}, api.Claims{Kid: "h", Body: "{}"})
		}
	}
	verifies(t, maced(right.with("typ", `"JWT"`).String(), "{}"), api.Asked{}, api.Claims{Kid: "h", Body: "{}"})
	verifies(t, maced(right.with("typ", `"\u004aWT"`).String(), "{}"), api.Asked{}, api.Claims{Kid: "h", Body: "{}"})
}

func TestVerifyTakesJustWhatIsCriticalAndKnown(t *testing.T) {
	base := members{"alg": `"HS256"`, "kid": `"h"`, "typ": `"JWT"`, "x": "1", "y": "null", "": "{}", "exp": "2"}
	all := []string{"x", "y", "", "exp", "alg", "kid", "typ", "crit", "z", "x"}
	for _, c := range []struct {
		crit  string
		known []string
		right bool
	}{
		{`["x"]`, []string{"x"}, true},
		{`["x"]`, all, true},
		{`["x","y"]`, []string{"y", "x"}, true},
		{`["y","x"]`, []string{"z", "y", "y", "x"}, true},
		{`["","exp","x","y"]`, all, true},
		{`["\u0078"]`, []string{"x"}, true},
		{`["x"]`, nil, false},
		{`["x"]`, []string{}, false},
		{`["x"]`, []string{"y", "X", "", "x ", "xx"}, false},
		{`["x","y"]`, []string{"x"}, false},
		{`["x","y"]`, []string{"y"}, false},
		{`["x","x"]`, all, false},
		{`["x","y","x"]`, all, false},
		{`["x","\u0078"]`, all, false},
		{`["z"]`, all, false},
		{`["x","z"]`, all, false},
		{`["z","x"]`, all, false},
		{`["alg"]`, all, false},
		{`["kid"]`, all, false},
		{`["typ"]`, all, false},
		{`["crit"]`, all, false},
		{`["x","alg"]`, all, false},
		{`["crit","x"]`, all, false},
		{`[]`, all, false},
		{`[1]`, all, false},
		{`[null]`, all, false},
		{`["x",1]`, all, false},
		{`[["x"]]`, all, false},
		{`[{"x":1}]`, all, false},
		{`"x"`, all, false},
		{`""`, all, false},
		{`{"x":1}`, all, false},
		{"null", all, false},
		{"true", all, false},
		{"1", all, false},
	} {
		head := base.with("crit", c.crit)
		asked := api.Asked{Known: c.known}
		if c.right {
			verifies(t, maced(head.String(), "{}"), asked, api.Claims{Kid: "h", Body: "{}"})
		} else {
			verifyFails(t, maced(head.String(), "{}"), asked, 0, api.ErrCrit)
		}
	}
	verifyFails(t, maced(base.without("typ").with("crit", `["typ"]`).String(), "{}"), api.Asked{Known: all}, 0, api.ErrCrit)
	verifyFails(t, maced(base.without("x").with("crit", `["x"]`).String(), "{}"), api.Asked{Known: all}, 0, api.ErrCrit)
	verifies(t, maced(base.String(), "{}"), api.Asked{Known: all}, api.Claims{Kid: "h", Body: "{}"})
}

func TestVerifyManyCriticalNames(t *testing.T) {
	head := members{"alg": `"HS256"`, "kid": `"h"`}
	var names, known []string
	for i := range 250 {
		name := strconv.Itoa(i)
		names, known = append(names, quoted(name)), append(known, name)
		head[name] = "0"
	}
	s := maced(head.with("crit", "["+strings.Join(names, ",")+"]").String(), "{}")
	verifies(t, s, api.Asked{Known: known}, api.Claims{Kid: "h", Body: "{}"})
	verifyFails(t, s, api.Asked{Known: known[1:]}, 0, api.ErrCrit)
	verifyFails(t, s, api.Asked{Known: known[:249]}, 0, api.ErrCrit)
}

func TestVerifyUsesAKeyInOneWayAlone(t *testing.T) {
	head := func(alg, kid string) string { return members{"alg": quoted(alg), "kid": quoted(kid)}.String() }
	for _, kid := range []string{"", "z", "H", "h ", "HS256", strings.Repeat("h", 2000)} {
		verifyFails(t, maced(head("HS256", kid), "{}"), api.Asked{}, 0, api.ErrKid)
		verifyFails(t, maced(head("none", kid), "{}"), api.Asked{}, 0, api.ErrKid)
	}
	for _, alg := range []string{"", "none", "hs256", "HS512", "EdDSA", "HS256 "} {
		verifyFails(t, maced(head(alg, "h"), "{}"), api.Asked{}, 0, api.ErrAlg)
	}
	for _, alg := range []string{"", "none", "HS256", "eddsa", "Ed25519"} {
		verifyFails(t, sealed(head(alg, "e"), "{}"), api.Asked{}, 0, api.ErrAlg)
		verifyFails(t, sealed(head(alg, "o"), "{}"), api.Asked{}, 0, api.ErrAlg)
	}
	signed := b64(head("HS256", "o")) + "." + b64("{}")
	verifyFails(t, signed+"."+b64(macOf(public, signed)), api.Asked{}, 0, api.ErrAlg)
	signed = b64(head("EdDSA", "o")) + "." + b64("{}")
	verifyFails(t, signed+"."+b64(macOf(public, signed)), api.Asked{}, 0, api.ErrSign)
	if _, e := letter.Verify(setOf(octKey.with("k", quoted(b64(public)))), sealed(octHead, "{}"), api.Asked{}, 0); e != api.ErrSign {
		t.Errorf("P9: a seal under a secret that is a public key: %d", e)
	}
	unsigned := b64(head("none", "h")) + "." + b64("{}") + "."
	verifyFails(t, unsigned, api.Asked{}, 0, api.ErrAlg)
}

func TestVerifyAsksTheRightKey(t *testing.T) {
	other := strings.Repeat("t", 32)
	set := setOf(octKey, octKey.with("kid", `"g"`).with("k", quoted(b64(other))), okpKey.with("kid", `"f"`).with("d", quoted(b64(other))).with("x", quoted(b64(publicOf(other)))), okpKey)
	for s, want := range map[string]api.Errno{
		maced(octHead, "{}"):                      api.OK,
		maced(`{"alg":"HS256","kid":"g"}`, "{}"):  api.ErrSign,
		sealed(okpHead, "{}"):                     api.OK,
		sealed(`{"alg":"EdDSA","kid":"f"}`, "{}"): api.ErrSign,
	} {
		if _, e := letter.Verify(set, s, api.Asked{}, 0); e != want {
			t.Errorf("P9: Verify(.., %q) = %d, want %d", s, e, want)
		}
	}
}

func TestVerifySignsHeadAndBody(t *testing.T) {
	for _, good := range []string{maced(octHead, `{"a":1}`), sealed(okpHead, `{"a":1}`)} {
		parts := strings.Split(good, ".")
		for _, body := range []string{`{"a":2}`, `{"a":1} `, "{}", ""} {
			verifyFails(t, parts[0]+"."+b64(body)+"."+parts[2], api.Asked{}, 0, api.ErrSign)
		}
		head := unb64(parts[0])
		verifyFails(t, b64(head+" ")+"."+parts[1]+"."+parts[2], api.Asked{}, 0, api.ErrSign)
		verifyFails(t, b64(strings.Replace(head, "{", `{"typ":"JWT",`, 1))+"."+parts[1]+"."+parts[2], api.Asked{}, 0, api.ErrSign)
	}
}

func TestVerifyTakesJustBodies(t *testing.T) {
	for _, body := range wrongBodies() {
		verifyFails(t, maced(octHead, body), api.Asked{}, 0, api.ErrBody)
	}
	for _, body := range rightBodies() {
		verifies(t, maced(octHead, body), api.Asked{Leeway: 1}, api.Claims{Kid: "h", Body: body})
	}
}

// The clock and the leeway at the ends of the numbers, held against numbers without ends.
func TestVerifyHoldsTheClock(t *testing.T) {
	const most = 1<<53 - 1
	ends := []int{math.MinInt, math.MinInt + 1, math.MinInt + most, -most - 1, -most, -100, -11, -10, -1, 0, 1, 10, 11, 100, most, most + 1, math.MaxInt - most, math.MaxInt - 1, math.MaxInt}
	for _, limit := range []int{-most, -10, 0, 1, 10, most} {
		exp := maced(octHead, `{"exp":`+strconv.Itoa(limit)+`}`)
		nbf := maced(octHead, `{"nbf":`+strconv.Itoa(limit)+`}`)
		for _, leeway := range ends {
			for _, now := range ends {
				wantExp, wantNbf := api.OK, api.OK
				spare := big.NewInt(int64(max(leeway, 0)))
				if big.NewInt(int64(now)).Cmp(new(big.Int).Add(big.NewInt(int64(limit)), spare)) >= 0 {
					wantExp = api.ErrLate
				}
				if new(big.Int).Add(big.NewInt(int64(now)), spare).Cmp(big.NewInt(int64(limit))) < 0 {
					wantNbf = api.ErrEarly
				}
				asked := api.Asked{Leeway: leeway}
				if _, e := letter.Verify(octKeys, exp, asked, now); e != wantExp {
					t.Errorf("P9: exp %d, leeway %d, now %d: %d, want %d", limit, leeway, now, e, wantExp)
				}
				if _, e := letter.Verify(octKeys, nbf, asked, now); e != wantNbf {
					t.Errorf("P9: nbf %d, leeway %d, now %d: %d, want %d", limit, leeway, now, e, wantNbf)
				}
			}
		}
	}
}

func TestVerifyWithoutTimesHoldsForEver(t *testing.T) {
	for _, now := range []int{math.MinInt, -1, 0, 1, math.MaxInt} {
		for _, leeway := range []int{math.MinInt, 0, math.MaxInt} {
			if _, e := letter.Verify(octKeys, maced(octHead, `{"iat":5,"Exp":1,"Nbf":9}`), api.Asked{Leeway: leeway}, now); e != api.OK {
				t.Errorf("P9: now %d, leeway %d: %d", now, leeway, e)
			}
		}
	}
}

func TestVerifyHoldsAudienceAndIssuer(t *testing.T) {
	for _, c := range []struct {
		body, audience, issuer string
		want                   api.Errno
	}{
		{"{}", "", "", api.OK},
		{"{}", "a", "", api.ErrAudience},
		{"{}", "", "i", api.ErrIssuer},
		{"{}", "a", "i", api.ErrAudience},
		{`{"aud":"a"}`, "", "", api.OK},
		{`{"aud":"a"}`, "a", "", api.OK},
		{`{"aud":"a"}`, "A", "", api.ErrAudience},
		{`{"aud":"ab"}`, "a", "", api.ErrAudience},
		{`{"aud":"a"}`, "ab", "", api.ErrAudience},
		{`{"aud":"\u0061"}`, "a", "", api.OK},
		{`{"aud":""}`, "a", "", api.ErrAudience},
		{`{"aud":[]}`, "a", "", api.ErrAudience},
		{`{"aud":[]}`, "", "", api.OK},
		{`{"aud":["b","a"]}`, "a", "", api.OK},
		{`{"aud":["a","b"]}`, "a", "", api.OK},
		{`{"aud":["b","","c"]}`, "a", "", api.ErrAudience},
		{`{"aud":["b","c"]}`, "b,c", "", api.ErrAudience},
		{`{"iss":"a"}`, "a", "", api.ErrAudience},
		{`{"iss":"i"}`, "", "", api.OK},
		{`{"iss":"i"}`, "", "i", api.OK},
		{`{"iss":"i"}`, "", "I", api.ErrIssuer},
		{`{"iss":"ij"}`, "", "i", api.ErrIssuer},
		{`{"iss":""}`, "", "i", api.ErrIssuer},
		{`{"aud":"i"}`, "", "i", api.ErrIssuer},
		{`{"aud":"a","iss":"i"}`, "a", "i", api.OK},
		{`{"aud":"a","iss":"i"}`, "a", "a", api.ErrIssuer},
		{`{"aud":"a","iss":"i"}`, "i", "i", api.ErrAudience},
		{`{"aud":"a","iss":"i"}`, "\xff", "", api.ErrAudience},
	} {
		asked := api.Asked{Audience: c.audience, Issuer: c.issuer}
		if c.want == api.OK {
			verifies(t, maced(octHead, c.body), asked, api.Claims{Kid: "h", Body: strings.ReplaceAll(c.body, `\u0061`, "a")})
		} else {
			verifyFails(t, maced(octHead, c.body), asked, 0, c.want)
		}
	}
}

// wrongLetter is a letter with every fault that is asked for, and the set of keys for it.
func wrongLetter(has func(api.Errno) bool) (set, s string) {
	head := members{"alg": `"HS256"`, "kid": `"h"`}
	body := members{"aud": `"a"`, "iss": `"i"`, "exp": "100", "nbf": "50"}
	swap := func(m members, e api.Errno, name, value string) {
		if has(e) {
			m[name] = value
		}
	}
	swap(head, api.ErrHead, "typ", `"x"`)
	swap(head, api.ErrCrit, "crit", `["x"]`)
	swap(head, api.ErrAlg, "alg", `"EdDSA"`)
	swap(head, api.ErrKid, "kid", `"z"`)
	swap(body, api.ErrBody, "x", `"`)
	swap(body, api.ErrLate, "exp", "70")
	swap(body, api.ErrEarly, "nbf", "80")
	swap(body, api.ErrAudience, "aud", `["b"]`)
	swap(body, api.ErrIssuer, "iss", `"j"`)
	swap(body, api.ErrLong, "long", quoted(strings.Repeat("x", 5000)))
	s = maced(head.String(), body.String())
	if has(api.ErrSign) {
		s = s[:len(s)-2] + "AA"
	}
	if has(api.ErrForm) {
		s += "="
	}
	set = octKeys
	if has(api.ErrKeys) {
		set += "x"
	}
	return set, s
}

// Every set of faults that may come together: the answer is the one that the document names first.
func TestVerifyAnswersTheFirstError(t *testing.T) {
	order := []api.Errno{api.ErrKeys, api.ErrLong, api.ErrForm, api.ErrHead, api.ErrCrit, api.ErrKid, api.ErrAlg, api.ErrSign, api.ErrBody, api.ErrLate, api.ErrEarly, api.ErrAudience, api.ErrIssuer}
	for faults := range 1 << len(order) {
		want := api.OK
		present := map[api.Errno]bool{}
		for i := len(order) - 1; i >= 0; i-- {
			if faults>>i&1 == 1 {
				present[order[i]], want = true, order[i]
			}
		}
		set, s := wrongLetter(func(e api.Errno) bool { return present[e] })
		got, e := letter.Verify(set, s, api.Asked{Audience: "a", Issuer: "i"}, 75)
		if e != want || (got == api.Claims{}) != (e != api.OK) {
			t.Fatalf("P1: Verify with the faults %v = %+v, %d, want %d", present, got, e, want)
		}
	}
	if _, e := letter.Verify(filled(octKeys+"x", api.MaxText+1), "", api.Asked{}, 0); e != api.ErrLong {
		t.Errorf("P1: Verify with too long a set of keys: %d", e)
	}
}
