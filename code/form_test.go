package code_test

import (
	"fmt"
	"math/rand"
	"strings"
	"testing"
	"unicode/utf8"

	"signet/api"
	"signet/code"
)

func checkForm(t *testing.T, s, want string, wantErr api.Errno) {
	t.Helper()
	if u, e := code.Form(s); u != want || e != wantErr {
		t.Errorf("P4: Form(%.200q) = %.200q, %d, want %.200q, %d", s, u, e, want, wantErr)
	}
}

func checkForms(t *testing.T, forms map[string]string) {
	t.Helper()
	for s, want := range forms {
		checkForm(t, s, want, api.OK)
		checkForm(t, want, want, api.OK)
		checkForm(t, "\r\n\t "+s+" \t\n\r", want, api.OK)
	}
}

func checkNoForms(t *testing.T, texts ...string) {
	t.Helper()
	for _, s := range texts {
		checkForm(t, s, "", api.ErrForm)
		checkForm(t, " "+s+"\n", "", api.ErrForm)
	}
}

func TestFormOfWords(t *testing.T) {
	checkForms(t, map[string]string{"null": "null", "true": "true", "false": "false"})
	checkNoForms(t, "nul", "nulll", "Null", "TRUE", "tru", "truefalse", "true false", "undefined", "NaN", "n ull", "null\x00")
}

func TestFormOfNumbers(t *testing.T) {
	checkForms(t, map[string]string{
		"0": "0", "1": "1", "-1": "-1", "10": "10", "-10": "-10", "100": "100", "1234567890": "1234567890",
		"9007199254740990": "9007199254740990", "9007199254740991": "9007199254740991",
		"-9007199254740991": "-9007199254740991", "[0]": "[0]", "[0,-1]": "[0,-1]",
	})
	checkNoForms(t,
		"00", "01", "-0", "-00", "-01", "-", "--1", "+1", "+0", "- 1", "1.", "1.0", ".1", "0.0", "1e2", "1E2", "1e-2",
		"0x1", "1_000", "1a", "1-", "1 1", "1 2", "0 0", "\u0661", "\uff11",
		"9007199254740992", "-9007199254740992", "9007199254740993", "9999999999999999", "10000000000000000",
		"9223372036854775807", "9223372036854775808", "-9223372036854775808", "18446744073709551616", "18446744073709551617",
		strings.Repeat("9", 3990), "-"+strings.Repeat("9", 3990), "-"+strings.Repeat("0", 3990),
		"[-0]", "[01]", "[9007199254740992]", "[1.0]")
}

func TestFormOfStrings(t *testing.T) {
	checkForms(t, map[string]string{
		`""`: `""`, `"a"`: `"a"`, `" a  b "`: `" a  b "`, `"/"`: `"/"`, `"\/"`: `"/"`,
		`"\"\\\/\b\f\n\r\t"`:         `"\"\\/\u0008\u000c\u000a\u000d\u0009"`,
		`"\u0000\u001F\u001f\u0020"`: `"\u0000\u001f\u001f "`,
		`"\u0022\u005c\u005C\u002f"`: `"\"\\\\/"`,
		`"\u007f\u0080\u07ff\u0800"`: "\"\x7f\u0080\u07ff\u0800\"",
		`"\ud7ff\ue000\ufffd\uffff"`: "\"\ud7ff\ue000\ufffd\uffff\"",
		`"\uD7FF\uE000\uFFFD\uFFFF"`: "\"\ud7ff\ue000\ufffd\uffff\"",
		`"\ud800\udc00"`:             "\"\U00010000\"",
		`"\ud800\udfff"`:             "\"\U000103ff\"",
		`"\udbff\udc00"`:             "\"\U0010fc00\"",
		`"\uDBFF\uDFFF"`:             "\"\U0010ffff\"",
		`"\ud834\udd1e\ud834\udd1e"`: "\"\U0001d11e\U0001d11e\"",
		`"\\ud800"`:                  `"\\ud800"`,
		`"\\\\u0041\u0041"`:          `"\\\\u0041A"`,
		`"\u00410"`:                  `"A0"`,
		"\"\x7f\"":                   "\"\x7f\"",
		"\"\u00e4\u20ac\U0001d11e\"": "\"\u00e4\u20ac\U0001d11e\"",
		"\"\ufffd\ufeff\u2028<>&\"":  "\"\ufffd\ufeff\u2028<>&\"",
		"\"\u0080\U0010ffff\"":       "\"\u0080\U0010ffff\"",
		`"[{]},:"`:                   `"[{]},:"`,
	})
}

func TestFormOfEveryRune(t *testing.T) {
	for first := rune(0); first <= utf8.MaxRune; first += 256 {
		var all, plain, escaped string
		for r := first; r < first+256; r++ {
			if !utf8.ValidRune(r) {
				continue
			}
			all += string(r)
			escaped += escapedRune(r)
			if r >= 32 && r != '"' && r != '\\' {
				plain += string(r)
			} else {
				checkForm(t, `"`+string(r)+`"`, "", api.ErrForm)
			}
		}
		checkForm(t, `"`+plain+`"`, `"`+plain+`"`, api.OK)
		checkForm(t, `"`+escaped+`"`, oracleText(all), api.OK)
	}
}

func escapedRune(r rune) string {
	if r < 65536 {
		return fmt.Sprintf(`\u%04x`, r)
	}
	return fmt.Sprintf(`\u%04X\u%04x`, 0xD800+(r-65536)>>10, 0xDC00+(r-65536)&1023)
}

func TestNoFormOfHalves(t *testing.T) {
	for unit := 0xD800; unit <= 0xDFFF; unit++ {
		checkForm(t, fmt.Sprintf(`"\u%04x"`, unit), "", api.ErrForm)
		checkForm(t, fmt.Sprintf(`"\u%04X"`, unit), "", api.ErrForm)
		checkForm(t, fmt.Sprintf(`"a\u%04xa"`, unit), "", api.ErrForm)
	}
	checkNoForms(t,
		`"\ud800\u0041"`, `"\ud800\ud800"`, `"\ud800\ud800\udc00"`, `"\ud800\udbff"`, `"\ud800\ue000"`,
		`"\udc00\udc00"`, `"\udc00\ud800"`, `"\ud7ff\udc00"`, `"\ue000\udc00"`, `"\ud800\udc00\udc00"`,
		`"\ud800 \udc00"`, `"\ud800a\udc00"`, `"\ud800\n\udc00"`, `"\ud800\\udc00"`, `"\ud800\`, `"\ud800\u`,
		`"\ud800\udc0"`, `"\ud800udc00"`, "\"\\ud800\U0001d11e\"", "\"\\ud800\xed\xb0\x80\"", `{"\ud800":1}`)
}

func TestNoFormOfWrongStrings(t *testing.T) {
	checkNoForms(t,
		`"`, `"a`, `a"`, `'a'`, `"a""b"`, `"a"b`, `"""`, `"\"`, `"\`, `"\\\"`, "\"\n\"", "\"\t\"", "\"\x00\"", "\"\x1f\"",
		`"\x"`, `"\a"`, `"\v"`, `"\0"`, `"\'"`, `"\N"`, `"\ "`, "\"\\\n\"", `"\U0041"`, `"\u"`, `"\u1"`, `"\u12"`, `"\u123"`,
		`"\u123`, `"\u123g"`, `"\u123G"`, `"\u 123"`, `"\u+123"`, `"\u-123"`, `"\u0x41"`, `"\u12_3"`, `"\u{41}"`,
		"\"\xff\"", "\"\x80\"", "\"\xc3\"", "\"\xc3", "\"\xc0\x80\"", "\"\xc1\xbf\"", "\"\xe0\x80\x80\"", "\"\xe0\x9f\xbf\"",
		"\"\xed\xa0\x80\"", "\"\xed\xbf\xbf\"", "\"\xf0\x8f\xbf\xbf\"", "\"\xf4\x90\x80\x80\"", "\"\xf5\x80\x80\x80\"", "\"\xe2\x82\"",
		"\"\xed\xa0\xb4\xed\xb4\x9e\"", "\"\\\xc3\xa4\"")
}

func TestFormOfArrays(t *testing.T) {
	checkForms(t, map[string]string{
		"[]": "[]", "[ ]": "[]", "[\n\t\r ]": "[]", "[1]": "[1]", "[ 1 ]": "[1]", "[1,2,1]": "[1,2,1]",
		"[ 3 , 2 ,\n1 ]": "[3,2,1]", "[[],[ ],{ }]": "[[],[],{}]", `["a","a"]`: `["a","a"]`,
		"[null,true,false,-1,\"\",[1],{\"a\":1}]": "[null,true,false,-1,\"\",[1],{\"a\":1}]",
	})
	checkNoForms(t, "[", "]", "[[", "[]]", "[[]", "[1", "1]", "[,", "[,]", "[1,]", "[,1]", "[1,,2]", "[1 2]", "[1;2]", "[1:2]",
		"[}", "{]", "[1}", "[] []", "[],[]", "[\"a\":1]", "[1, ]", "[\v]", "[\f1]", "[\u00a01]", "[\x00]")
}

func TestFormOfObjects(t *testing.T) {
	checkForms(t, map[string]string{
		`{ "b": 1, "a": "\u0041\/" }`: `{"a":"A/","b":1}`,
		"{}":                          "{}", "{\r\n}": "{}", `{"":0}`: `{"":0}`, `{ "a" : 1 }`: `{"a":1}`,
		"{\n\"a\"\t:\r1 ,\n\"b\"\t:\r2 }":         `{"a":1,"b":2}`,
		`{"b":1,"a":2,"c":3}`:                     `{"a":2,"b":1,"c":3}`,
		`{"ab":1,"a":2,"":3,"B":4,"b":5}`:         `{"":3,"B":4,"a":2,"ab":1,"b":5}`,
		`{"10":1,"9":2,"1":3}`:                    `{"1":3,"10":1,"9":2}`,
		`{"b":{"b":1,"a":2},"a":[{"d":1,"c":2}]}`: `{"a":[{"c":2,"d":1}],"b":{"a":2,"b":1}}`,
		`{"a":{"a":{"a":1}}}`:                     `{"a":{"a":{"a":1}}}`,
		`{"A":1,"a":2}`:                           `{"A":1,"a":2}`,
		// A name goes by its own bytes, not by those that it is written with.
		`{"#":1,"\"":2,"!":3}`:                  `{"!":3,"\"":2,"#":1}`,
		`{" ":1,"\u001f":2,"\n":3}`:             `{"\u000a":3,"\u001f":2," ":1}`,
		`{"]":1,"\\":2,"[":3}`:                  `{"[":3,"\\":2,"]":1}`,
		`{"\ud800\udc00":1,"\uffff":2}`:         "{\"\uffff\":2,\"\U00010000\":1}",
		"{\"\u00e4\":1,\"z\":2,\"\x7f\":3}":     "{\"z\":2,\"\x7f\":3,\"\u00e4\":1}",
		"{\"e\u0301\":1,\"\u00e9\":2}":          "{\"e\u0301\":1,\"\u00e9\":2}",
		`{"a\u0000":1,"a":2,"a\u0000\u0000":3}`: `{"a":2,"a\u0000":1,"a\u0000\u0000":3}`,
	})
	checkNoForms(t, "{", "}", "{{}}", "{}}", "{{}", `{"a"}`, `{"a":}`, `{"a":1`, `{"a":1,}`, `{,"a":1}`, `{"a":1,,"b":2}`, "{,}",
		`{"a" 1}`, `{"a"::1}`, `{"a":1 "b":2}`, `{"a":1;"b":2}`, `{"a":1:2}`, `{"a",1}`, `{a:1}`, `{1:1}`, `{null:1}`, `{'a':1}`, `{:1}`,
		`{["a"]:1}`, `{"a":1]`, `{"a":1}{"b":2}`, "{\"a\n\":1}")
}

func TestNoFormOfNamesAlike(t *testing.T) {
	checkNoForms(t,
		`{"a":1,"a":2}`, `{"a":1,"a":1}`, `{"":1,"":2}`, `{"a":1,"b":2,"a":3}`, `{"b":1,"a":2,"c":3,"b":4}`,
		`{"a":1,"\u0061":2}`, `{"\/":1,"/":2}`, `{"\n":1,"\u000A":2}`, "{\"\\ud834\\udd1e\":1,\"\U0001d11e\":2}",
		`[{"a":1,"a":2}]`, `{"c":{"a":1,"a":2}}`, `{"a":{},"a":[]}`)
}

func TestFormOfDeepTexts(t *testing.T) {
	for _, pair := range []struct{ open, middle, shut string }{
		{"[", "", "]"}, {"[", "1", "]"}, {"[", "{}", "]"}, {"[", "[]", "]"}, {`{"a":`, "1", "}"}, {`{"a":`, "[]", "}"}, {`{"a":`, "{}", "}"},
		{"[1,", "2", "]"},
	} {
		within := 8
		if strings.ContainsAny(pair.middle, "[{") {
			within--
		}
		for n := range 20 {
			s := strings.Repeat(pair.open, n) + pair.middle + strings.Repeat(pair.shut, n)
			if s == "" {
				continue
			}
			if n <= within {
				checkForm(t, s, s, api.OK)
			} else {
				checkForm(t, s, "", api.ErrForm)
			}
		}
	}
	beside := strings.Repeat("[[],", 7) + "2" + strings.Repeat("]", 7)
	checkForm(t, beside, beside, api.OK)
	checkForm(t, "["+beside+"]", "", api.ErrForm)
	mixed := `[{"a":[{"a":[{"a":[{"a":1}]}]}]}]`
	checkForm(t, mixed, mixed, api.OK)
	checkForm(t, "["+mixed+"]", "", api.ErrForm)
	wide := "[" + strings.Repeat("[[[[[[[]]]]]]],", 100) + "[[[[[[[]]]]]]]]"
	checkForm(t, wide, wide, api.OK)
}

func TestFormOfLongTexts(t *testing.T) {
	longest := `"` + strings.Repeat("a", 3998) + `"`
	checkForm(t, longest, longest, api.OK)
	checkForm(t, strings.Repeat(" ", 3999)+"1", "1", api.OK)
	checkForm(t, "1"+strings.Repeat("\n", 3999), "1", api.OK)
	checkForm(t, strings.Repeat(" ", 4000), "", api.ErrForm)
	checkForm(t, strings.Repeat("[", 4000), "", api.ErrForm)
	// The bound is on what comes in: the one form may be longer.
	checkForm(t, `"`+strings.Repeat(`\n`, 1999)+`"`, `"`+strings.Repeat(`\u000a`, 1999)+`"`, api.OK)
	many := "[" + strings.Repeat("0,", 1998) + "0]"
	checkForm(t, many, many, api.OK)
	for _, s := range []string{
		`"` + strings.Repeat("a", 3999) + `"`, strings.Repeat(" ", 4000) + "1", "1" + strings.Repeat(" ", 4000),
		strings.Repeat("[", 4001), strings.Repeat("\xff", 4001), strings.Repeat(" ", 4001), strings.Repeat("[", 1<<22),
		`"` + strings.Repeat("\u00e4", 2000) + `"`,
	} {
		checkForm(t, s, "", api.ErrLong)
	}
}

func TestNoFormOfOtherTexts(t *testing.T) {
	checkNoForms(t, " ", "\t\n\r ", ",", ":", "\ufeff1", "1\ufeff", "\u00a01", "\v1", "\f1", "1\x00", "\x001", "// 1\n1", "/**/1", "#1", "1;", "(1)", "\xff", "a")
	checkForm(t, "", "", api.ErrForm)
}

// Texts that are right, and the same texts with a few bytes changed, are held against the oracle.
func TestFormAgainstOracle(t *testing.T) {
	r := rand.New(rand.NewSource(3))
	accepted := 0
	for range 20000 {
		s := randomText(r, 5)
		checkAgainstOracle(t, s)
		for range r.Intn(4) {
			s = spoiled(r, s)
			if checkAgainstOracle(t, s) {
				accepted++
			}
		}
	}
	if accepted == 0 {
		t.Error("no spoiled text was right: the test tells too little")
	}
}

func FuzzForm(f *testing.F) {
	r := rand.New(rand.NewSource(4))
	for range 200 {
		f.Add(randomText(r, 5))
	}
	f.Add(strings.Repeat("[", 9) + strings.Repeat("]", 9))
	f.Fuzz(func(t *testing.T, s string) { checkAgainstOracle(t, s) })
}

func checkAgainstOracle(t *testing.T, s string) bool {
	t.Helper()
	if len(s) > api.MaxText {
		checkForm(t, s, "", api.ErrLong)
		return false
	}
	want, ok := oracleForm(s)
	if !ok {
		checkForm(t, s, "", api.ErrForm)
		return false
	}
	checkForm(t, s, want, api.OK)
	if len(want) <= api.MaxText {
		checkForm(t, want, want, api.OK)
	}
	return true
}

func pick(r *rand.Rand, texts ...string) string { return texts[r.Intn(len(texts))] }

func randomText(r *rand.Rand, depth int) string {
	blank := func() string { return pick(r, "", "", "", " ", "\n", "\t\r") }
	sort := r.Intn(7)
	if depth == 0 {
		sort = r.Intn(5)
	}
	switch sort {
	case 0:
		return blank() + pick(r, "null", "true", "false") + blank()
	case 1, 2:
		return blank() + pick(r, "0", "-1", "12", "9007199254740991", "-9007199254740991", fmt.Sprint(r.Intn(1<<40))) + blank()
	case 3, 4:
		return blank() + randomString(r) + blank()
	}
	var parts []string
	for range r.Intn(4) {
		part := randomText(r, depth-1)
		if sort == 6 {
			part = blank() + randomString(r) + blank() + ":" + part
		}
		parts = append(parts, part)
	}
	if parts == nil {
		parts = []string{blank()}
	}
	if sort == 5 {
		return blank() + "[" + strings.Join(parts, ",") + "]" + blank()
	}
	return blank() + "{" + strings.Join(parts, ",") + "}" + blank()
}

func randomString(r *rand.Rand) string {
	s := `"`
	for range r.Intn(4) {
		s += pick(r, "a", "b", `\u0061`, `\u0062`, `\"`, `\\`, `\/`, "/", `\n`, `\u000A`, "\u00e4", `\u00e4`, "\U0001d11e", `\uD834\uDd1e`, "\x7f", "{", ",", " ")
	}
	return s + `"`
}

func spoiled(r *rand.Rand, s string) string {
	at := r.Intn(len(s) + 1)
	bit := pick(r, "", "0", "1", "-", ".", "e", `"`, `\`, `\u`, "d", "8", "[", "]", "{", "}", ",", ":", " ", "\n", "\x00", "\x1f", "\x80", "\xed\xa0\x80", "a", `"a":1,`, `\ud800`, `\udc00`, "null")
	if r.Intn(2) == 0 || at == len(s) {
		return s[:at] + bit + s[at:]
	}
	return s[:at] + bit + s[at+1:]
}
