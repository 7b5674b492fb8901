package code_test

import (
	"encoding/json"
	"fmt"
	"regexp"
	"slices"
	"strings"
	"unicode/utf8"
)

// The oracle reaches the one form by another way: the library reads the text, and what the
// document forbids beyond that is looked for afterwards.
var (
	wholeNumber = regexp.MustCompile(`^(0|-?[1-9][0-9]{0,15})$`)
	escapes     = regexp.MustCompile(`(?s)\\u[dD][89abAB]..\\u[dD][c-fC-F]..|\\u....|\\.`)
	loneHalf    = regexp.MustCompile(`^\\u[dD][89a-fA-F]..$`)
)

type walk struct {
	from  *json.Decoder
	depth int
}

func oracleForm(s string) (string, bool) {
	if !utf8.ValidString(s) || !json.Valid([]byte(s)) {
		return "", false
	}
	for _, escape := range escapes.FindAllString(s, -1) {
		if loneHalf.MatchString(escape) {
			return "", false
		}
	}
	from := json.NewDecoder(strings.NewReader(s))
	from.UseNumber()
	w := &walk{from: from}
	return w.value()
}

func (w *walk) value() (string, bool) {
	token, err := w.from.Token()
	if err != nil {
		return "", false
	}
	switch v := token.(type) {
	case json.Delim:
		return w.brackets(v)
	case json.Number:
		n, err := v.Int64()
		ok := err == nil && wholeNumber.MatchString(v.String()) && -1<<53 < n && n < 1<<53
		return v.String(), ok
	case string:
		return oracleText(v), true
	case nil:
		return "null", true
	}
	return fmt.Sprint(token), true
}

func (w *walk) brackets(open json.Delim) (string, bool) {
	w.depth++
	if w.depth > 8 {
		return "", false
	}
	defer func() { w.depth-- }()
	var parts, names []string
	written := map[string]string{}
	for w.from.More() {
		if open == '{' {
			token, err := w.from.Token()
			name, isText := token.(string)
			if err != nil || !isText || slices.Contains(names, name) {
				return "", false
			}
			names = append(names, name)
		}
		part, ok := w.value()
		if !ok {
			return "", false
		}
		if open == '{' {
			written[names[len(names)-1]] = part
		}
		parts = append(parts, part)
	}
	w.from.Token()
	if open == '[' {
		return "[" + strings.Join(parts, ",") + "]", true
	}
	parts = nil
	slices.Sort(names)
	for _, name := range names {
		parts = append(parts, oracleText(name)+":"+written[name])
	}
	return "{" + strings.Join(parts, ",") + "}", true
}

func oracleText(text string) string {
	out := `"`
	for _, r := range text {
		switch {
		case r < 32:
			out += fmt.Sprintf(`\u%04x`, r)
		case r == '"' || r == '\\':
			out += `\` + string(r)
		default:
			out += string(r)
		}
	}
	return out + `"`
}
