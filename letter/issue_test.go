package letter_test

import (
	"strconv"
	"strings"
	"testing"

	"signet/api"
	"signet/letter"
)

func TestIssueGivesTheLetter(t *testing.T) {
	for body, form := range map[string]string{
		"{}":                               "{}",
		"\t{ } \r\n":                       "{}",
		` { "b":1,"a":2 }`:                 `{"a":2,"b":1}`,
		`{"x":"\u0041\/\n","":[{}, null]}`: `{"":[{},null],"x":"A/\u000a"}`,
		`{"exp":-9007199254740991,"nbf":9007199254740991,"iss":"","aud":[ ]}`: `{"aud":[],"exp":-9007199254740991,"iss":"","nbf":9007199254740991}`,
		`{"aud":["a","a", "b"],"Exp":"x","sub":1}`:                            `{"Exp":"x","aud":["a","a","b"],"sub":1}`,
		`{"\u0065xp":0,"aud":"\ud83d\udd11"}`:                                 "{\"aud\":\"\U0001f511\",\"exp\":0}",
	} {
		if s, e := letter.Issue(keys, "h", body); s != maced(octHead, form) || e != api.OK {
			t.Errorf("P8: Issue(.., h, %q) = %q, %d", body, s, e)
		}
		if s, e := letter.Issue(keys, "e", body); s != sealed(okpHead, form) || e != api.OK {
			t.Errorf("P8: Issue(.., e, %q) = %q, %d", body, s, e)
		}
	}
}

func TestIssueWritesTheKidInItsOneForm(t *testing.T) {
	set := setOf(octKey.with("kid", `"\"\\\/\n\u00e4"`))
	if s, e := letter.Issue(set, "\"\\/\n\u00e4", "{}"); s != maced("{\"alg\":\"HS256\",\"kid\":\"\\\"\\\\/\\u000a\u00e4\"}", "{}") || e != api.OK {
		t.Errorf("P8: Issue: %q, %d", s, e)
	}
}

func TestIssueSignsWithTheKeyOfTheKid(t *testing.T) {
	first := octKey.with("kid", `"1"`)
	second := octKey.with("kid", `"2"`).with("k", quoted(b64(strings.Repeat("t", 64))))
	for _, set := range []string{setOf(first, second), setOf(second, first)} {
		for kid, key := range map[string]string{"1": secret, "2": strings.Repeat("t", 64)} {
			signed := b64(`{"alg":"HS256","kid":"`+kid+`"}`) + "." + b64("{}")
			if s, e := letter.Issue(set, kid, "{}"); s != signed+"."+b64(macOf(key, signed)) || e != api.OK {
				t.Errorf("P8: Issue(.., %q, {}) = %q, %d", kid, s, e)
			}
		}
	}
}

func issueFails(t *testing.T, set, kid, body string, want api.Errno) {
	t.Helper()
	if s, e := letter.Issue(set, kid, body); s != "" || e != want {
		t.Errorf("P8: Issue(%.60q, %q, %.60q) = %q, %d, want %d", set, kid, body, s, e, want)
	}
}

func TestIssueNeedsAKey(t *testing.T) {
	for _, kid := range []string{"", "H", "h ", "z", "HS256", "hh", "\xff", strings.Repeat("h", 1<<16)} {
		issueFails(t, keys, kid, "{}", api.ErrKid)
	}
	issueFails(t, keys, "o", "{}", api.ErrPrivate)
	issueFails(t, setOf(openKey), "o", "{}", api.ErrPrivate)
	issueFails(t, setOf(octKey.without("k")), "h", "{}", api.ErrKeys)
	issueFails(t, filled(keys, api.MaxText+1), "h", "{}", api.ErrLong)
}

func TestIssueBoundsTheBody(t *testing.T) {
	for _, kid := range []string{"h", "e"} {
		if _, e := letter.Issue(keys, kid, filled("{}", api.MaxBody)); e != api.OK {
			t.Errorf("P8: Issue of %d bytes: %d", api.MaxBody, e)
		}
		issueFails(t, keys, kid, filled("{}", api.MaxBody+1), api.ErrLong)
		issueFails(t, keys, kid, filled("no body", api.MaxBody), api.ErrBody)
		issueFails(t, keys, kid, filled("no body", api.MaxBody+1), api.ErrLong)
		issueFails(t, keys, kid, filled("{}", api.MaxText+1), api.ErrLong)
	}
}

// wrongBodies are no letters' bodies, and rightBodies are some.
func wrongBodies() []string {
	all := []string{"", " ", "x", "{", "[]", "null", `"{}"`, "1", "{}x", "{}{}", `{"a":1,"a":2}`, `{"a":01}`, "{\"a\":\"\xff\"}", `{"a":[[[[[[[[]]]]]]]]}`, `{"exp":1.5}`, `{"exp":9007199254740992}`}
	for _, name := range []string{"exp", "nbf"} {
		for _, value := range wrongKinds("number") {
			all = append(all, members{name: value}.String())
		}
	}
	for _, value := range wrongKinds("string") {
		all = append(all, members{"iss": value}.String())
	}
	for _, value := range append(wrongKinds("string", "array"), "[1]", `["a",1]`, `[1,"a"]`, `[["a"]]`, "[null]", "[{}]", `["a","b",true]`) {
		all = append(all, members{"aud": value}.String())
	}
	return append(all, `{"aud":"a","exp":1,"iss":"i","nbf":"1"}`, `{"aud":"a","exp":1,"iss":null,"nbf":1}`)
}

func rightBodies() []string {
	all := []string{"{}", `{"a":[[[[[[[]]]]]]]}`, `{"exp":0,"nbf":0}`, `{"iss":""}`, `{"aud":""}`, `{"aud":[]}`, `{"aud":[""]}`, `{"aud":["a","a"]}`}
	for _, name := range []string{"EXP", "Nbf", "ISS", "Aud", "sub", "jti", "iat", "crit", "", "exp "} {
		for _, value := range wrongKinds() {
			all = append(all, members{name: value}.String())
		}
	}
	return all
}

func TestIssueTakesJustBodies(t *testing.T) {
	for _, body := range wrongBodies() {
		issueFails(t, octKeys, "h", body, api.ErrBody)
	}
	for _, body := range rightBodies() {
		if s, e := letter.Issue(octKeys, "h", body); s != maced(octHead, body) || e != api.OK {
			t.Errorf("P8: Issue(.., h, %q) = %q, %d", body, s, e)
		}
	}
}

// Every set of faults that may come together: the answer is the one that the document names first.
func TestIssueAnswersTheFirstError(t *testing.T) {
	order := []api.Errno{api.ErrLong, api.ErrKeys, api.ErrKid, api.ErrPrivate, api.ErrLong, api.ErrBody}
	for faults := range 1 << len(order) {
		has := func(i int) bool { return faults>>i&1 == 1 }
		want := api.OK
		for i := len(order) - 1; i >= 0; i-- {
			if has(i) {
				want = order[i]
			}
		}
		set, kid, body := keys, "e", "{}"
		if has(1) {
			set += "x"
		}
		if has(0) {
			set = filled(set, api.MaxText+1)
		}
		if has(3) {
			kid = "o"
		}
		if has(2) {
			kid = "z"
		}
		if has(5) {
			body = `{"exp":""}`
		}
		if has(4) {
			body = filled(body, api.MaxBody+1)
		}
		if s, e := letter.Issue(set, kid, body); e != want || (s == "") != (e != api.OK) {
			t.Errorf("P1: Issue with faults %s = %q, %d, want %d", strconv.FormatInt(int64(faults), 2), s, e, want)
		}
	}
}
