package letter_test

import (
	"bytes"
	"encoding/json"
	"maps"
	"math"
	"math/big"
	"math/rand"
	"reflect"
	"slices"
	"strings"
	"sync"
	"testing"

	"signet/api"
	"signet/code"
	"signet/letter"
)

func TestListsAreTheCallers(t *testing.T) {
	want := loads(t, keys)
	got := loads(t, keys)
	got[0], got[1].Kid = api.Key{Kid: "changed"}, "changed"
	_ = append(got[:1], api.Key{Kid: "added"})
	if again := loads(t, keys); !reflect.DeepEqual(again, want) {
		t.Errorf("P2: a change of one answer changed another one: %+v", again)
	}
	known := []string{"y", "x", "x"}
	head := `{"alg":"HS256","kid":"h","crit":["x","y"],"x":1,"y":2}`
	verifies(t, maced(head, "{}"), api.Asked{Known: known}, api.Claims{Kid: "h", Body: "{}"})
	if !slices.Equal(known, []string{"y", "x", "x"}) {
		t.Errorf("P2: what was asked is changed: %q", known)
	}
}

// What one call was given is nothing to another one, nor to those that run at the same time.
func TestCallsKnowNothingOfEachOther(t *testing.T) {
	other := setOf(octKey.with("k", quoted(b64(strings.Repeat("t", 40)))))
	good := maced(octHead, `{"exp":10}`)
	var all sync.WaitGroup
	for range 8 {
		all.Go(func() {
			for range 20 {
				if _, e := letter.Verify(other, good, api.Asked{}, 0); e != api.ErrSign {
					t.Errorf("P2: with another key: %d", e)
				}
				if _, e := letter.Verify(octKeys, good, api.Asked{}, 0); e != api.OK {
					t.Errorf("P2: with the right key: %d", e)
				}
				if _, e := letter.Verify(octKeys, good, api.Asked{}, 10); e != api.ErrLate {
					t.Errorf("P2: too late: %d", e)
				}
				if s, e := letter.Issue(octKeys, "h", `{"exp":10}`); s != good || e != api.OK {
					t.Errorf("P2: Issue: %q, %d", s, e)
				}
			}
		})
	}
	all.Wait()
}

// objectOf reads an object by the library of Go; whether it is JSON says Form, which has tests of its own.
func objectOf(s string) (map[string]any, bool) {
	form, e := code.Form(s)
	if e != api.OK {
		return nil, false
	}
	d := json.NewDecoder(strings.NewReader(form))
	d.UseNumber()
	var v any
	if d.Decode(&v) != nil {
		return nil, false
	}
	m, ok := v.(map[string]any)
	return m, ok
}

func wantHead(head map[string]any, known []string) api.Errno {
	alg, isText := head["alg"].(string)
	kid, isTextToo := head["kid"].(string)
	typ, hasTyp := head["typ"]
	if !isText || !isTextToo || hasTyp && typ != "JWT" {
		return api.ErrHead
	}
	if crit, has := head["crit"]; has {
		names, _ := crit.([]any)
		for i, name := range names {
			s, isText := name.(string)
			_, isMember := head[s]
			if !isText || !isMember || slices.Contains(names[:i], name) || slices.Contains([]string{"alg", "kid", "typ", "crit"}, s) || !slices.Contains(known, s) {
				return api.ErrCrit
			}
		}
		if len(names) == 0 {
			return api.ErrCrit
		}
	}
	if kid != "h" {
		return api.ErrKid
	}
	if alg != "HS256" {
		return api.ErrAlg
	}
	return api.OK
}

func isBody(body map[string]any) bool {
	for _, name := range []string{"exp", "nbf"} {
		if v, has := body[name]; has && reflect.TypeOf(v) != reflect.TypeOf(json.Number("")) {
			return false
		}
	}
	if iss, has := body["iss"]; has && reflect.TypeOf(iss) != reflect.TypeOf("") {
		return false
	}
	switch aud := body["aud"].(type) {
	case string:
	case []any:
		return !slices.ContainsFunc(aud, func(v any) bool { return reflect.TypeOf(v) != reflect.TypeOf("") })
	default:
		_, has := body["aud"]
		return !has
	}
	return true
}

func wantBody(body map[string]any, asked api.Asked, now int) api.Errno {
	whole := func(v any) *big.Int {
		n, _ := new(big.Int).SetString(string(v.(json.Number)), 10)
		return n
	}
	clock, leeway := big.NewInt(int64(now)), big.NewInt(max(int64(asked.Leeway), 0))
	if exp, has := body["exp"]; has && clock.Cmp(new(big.Int).Add(whole(exp), leeway)) >= 0 {
		return api.ErrLate
	}
	if nbf, has := body["nbf"]; has && new(big.Int).Add(clock, leeway).Cmp(whole(nbf)) < 0 {
		return api.ErrEarly
	}
	list, _ := body["aud"].([]any)
	if asked.Audience != "" && body["aud"] != any(asked.Audience) && !slices.Contains(list, any(asked.Audience)) {
		return api.ErrAudience
	}
	if asked.Issuer != "" && body["iss"] != any(asked.Issuer) {
		return api.ErrIssuer
	}
	return api.OK
}

// wanted is what the document asks of a letter with that head and body whose mac is right.
func wanted(head, body string, asked api.Asked, now int) api.Errno {
	if len(maced(head, body)) > api.MaxLetter {
		return api.ErrLong
	}
	h, ok := objectOf(head)
	if !ok {
		return api.ErrHead
	}
	if e := wantHead(h, asked.Known); e != api.OK {
		return e
	}
	b, ok := objectOf(body)
	if !ok || !isBody(b) {
		return api.ErrBody
	}
	return wantBody(b, asked, now)
}

func checkLetter(t *testing.T, head, body string, asked api.Asked, now int) api.Errno {
	t.Helper()
	want := wanted(head, body, asked, now)
	claims := api.Claims{}
	if want == api.OK {
		form, _ := code.Form(body)
		claims = api.Claims{Kid: "h", Body: form}
	}
	if got, e := letter.Verify(octKeys, maced(head, body), asked, now); got != claims || e != want {
		t.Errorf("P9: Verify of %q, %q, %+v, %d = %+v, %d, want %d", head, body, asked, now, got, e, want)
	}
	return want
}

// anyOf is an object whose members have now and then one of those values.
func anyOf(r *rand.Rand, choices map[string][]string) string {
	var out bytes.Buffer
	for _, name := range slices.Sorted(maps.Keys(choices)) {
		values := choices[name]
		if i := r.Intn(len(values) + 1); i < len(values) {
			out.WriteString(", " + quoted(name) + ":" + values[i])
		}
	}
	return "{" + strings.TrimPrefix(out.String(), ", ") + "}"
}

func TestLettersOfAllSorts(t *testing.T) {
	heads := map[string][]string{
		"alg":  {`"HS256"`, `"HS256"`, `"HS256"`, `"HS256"`, `"HS256"`, `"HS256"`, `"EdDSA"`, "1"},
		"kid":  {`"h"`, `"h"`, `"h"`, `"h"`, `"h"`, `"h"`, `"g"`, "null"},
		"typ":  {`"JWT"`, `"JWT"`, `"JWT"`, `"x"`},
		"crit": {`["x"]`, `["y","x"]`, `["x","x"]`, `["typ"]`, `[1]`, "null", `["z"]`},
		"x":    {"1"}, "y": {"null"},
	}
	bodies := map[string][]string{
		"exp": {"0", "5", "10", "9007199254740991", "-5", `"x"`},
		"nbf": {"0", "5", "10", "-9007199254740991", "-5", "[]"},
		"iss": {`"i"`, `"j"`, `"i"`, `"i"`, "1"},
		"aud": {`"a"`, `["b","a"]`, `["b"]`, `"b"`, `["a"]`, `["a",1]`},
		"x":   {"{}"},
	}
	r := rand.New(rand.NewSource(9))
	pick := func(all ...int) int { return all[r.Intn(len(all))] }
	seen := map[api.Errno]int{}
	for range 20000 {
		asked := api.Asked{Leeway: pick(0, 0, 5, -5, math.MaxInt, math.MinInt)}
		asked.Audience = []string{"", "", "a"}[r.Intn(3)]
		asked.Issuer = []string{"", "", "i"}[r.Intn(3)]
		asked.Known = [][]string{nil, {"x"}, {"x", "y"}, {"typ", "x", "z", "y", "x"}}[r.Intn(4)]
		now := pick(0, 4, 5, 6, 10, -5, math.MaxInt, math.MinInt)
		seen[checkLetter(t, anyOf(r, heads), anyOf(r, bodies), asked, now)]++
	}
	for _, e := range []api.Errno{api.OK, api.ErrHead, api.ErrCrit, api.ErrKid, api.ErrAlg, api.ErrBody, api.ErrLate, api.ErrEarly, api.ErrAudience, api.ErrIssuer} {
		if seen[e] < 10 {
			t.Errorf("the answer %d came %d times: the letters are too much alike", e, seen[e])
		}
	}
}

func FuzzVerify(f *testing.F) {
	f.Add(octHead, "{}", "x", "", "", 0, 0)
	f.Add(`{"alg":"HS256","kid":"h","typ":"JWT","crit":["x"],"x":1}`, `{"exp":5,"nbf":1,"aud":["a"],"iss":"i"}`, "x", "a", "i", 1, 2)
	f.Fuzz(func(t *testing.T, head, body, known, audience, issuer string, leeway, now int) {
		asked := api.Asked{Audience: audience, Issuer: issuer, Leeway: leeway, Known: strings.Split(known, ",")}
		checkLetter(t, head, body, asked, now)
	})
}

// Whatever the text is, a letter that is let by is the only text of its bytes.
func FuzzLetter(f *testing.F) {
	f.Add(maced(octHead, "{}"))
	f.Add(sealed(okpHead, `{"a":1}`))
	f.Add("..")
	f.Fuzz(func(t *testing.T, s string) {
		got, e := letter.Verify(keys, s, api.Asked{}, 0)
		if (got == api.Claims{}) != (e != api.OK) {
			t.Errorf("P1: Verify(.., %q) = %+v, %d", s, got, e)
		}
		if e != api.OK {
			return
		}
		parts := strings.Split(s, ".")
		for _, part := range parts {
			if b64(unb64(part)) != part {
				t.Errorf("P11: %q is let by", s)
			}
		}
	})
}

func FuzzLoad(f *testing.F) {
	f.Add(keys)
	f.Add(octKeys)
	f.Add(setOf(manyKeys(8)...))
	f.Fuzz(func(t *testing.T, set string) {
		got, e := letter.Load(set)
		if e != api.OK {
			if got != nil || e != api.ErrLong && e != api.ErrKeys {
				t.Errorf("P1: Load(%q) = %v, %d", set, got, e)
			}
			return
		}
		kids := map[string]int{}
		for _, key := range got {
			kids[key.Kid]++
			right := key.Alg == "HS256" && 32 <= len(key.Public) && len(key.Public) <= 64 && key.Private == "" ||
				key.Alg == "EdDSA" && len(key.Public) == 32 && (key.Private == "" || publicOf(key.Private) == key.Public)
			if !right || len(key.Kid) < 1 || len(key.Kid) > 20 || kids[key.Kid] > 1 || len(unb64(key.Thumb)) != 32 {
				t.Errorf("P7: Load(%q) has the key %+v", set, key)
			}
		}
		if len(got) < 1 || len(got) > 8 {
			t.Errorf("P7: Load(%q) has %d keys", set, len(got))
		}
	})
}

func FuzzIssue(f *testing.F) {
	f.Add("h", "{}")
	f.Add("h", ` {"b":"\n","a":[1]}`)
	f.Fuzz(func(t *testing.T, kid, body string) {
		s, e := letter.Issue(octKeys, kid, body)
		if (s == "") != (e != api.OK) {
			t.Errorf("P1: Issue(.., %q, %q) = %q, %d", kid, body, s, e)
		}
		if e != api.OK {
			return
		}
		form, _ := code.Form(body)
		if s != maced(octHead, form) {
			t.Errorf("P8: Issue(.., %q, %q) = %q", kid, body, s)
		}
		got, e := letter.Verify(octKeys, s, api.Asked{Leeway: math.MaxInt}, -1)
		if e != api.ErrEarly && e != api.ErrLate && (got != api.Claims{Kid: "h", Body: form} || e != api.OK) {
			t.Errorf("P10: Verify of what Issue gave for %q: %+v, %d", body, got, e)
		}
	})
}
