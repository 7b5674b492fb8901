package json

import (
	"slices"
	"strconv"
	"strings"
	"unicode/utf8"

	"signet/api"
)

// document reads a value with the blanks round it. Each turn of the loop lets brackets stand
// one deeper in one another, so that the depth is bounded by how the reader is made.
func document() reader[Value] {
	text := quoted()
	simple := oneOf(
		word("null", Value{Kind: Null}),
		word("true", Value{Kind: True}),
		word("false", Value{Kind: False}),
		changed(number(), numberValue),
		changed(text, textValue),
	)
	value := padded(simple)
	for range api.MaxDepth {
		array := changed(list("[", "]", value), arrayValue)
		object := changed(list("{", "}", member(text, value)), objectValue)
		value = padded(oneOf(simple, array, object))
	}
	return value
}

func member(name reader[string], value reader[Value]) reader[Member] {
	return both(padded(name), after(":", value), func(name string, v Value) (Member, bool) {
		return Member{Name: name, Value: v}, true
	})
}

func numberValue(n int64) (Value, bool) { return Value{Kind: Number, Number: n}, true }

func textValue(text string) (Value, bool) { return Value{Kind: String, Text: text}, true }

func arrayValue(items []Value) (Value, bool) { return Value{Kind: Array, Items: items}, true }

func objectValue(members []Member) (Value, bool) {
	slices.SortFunc(members, func(a, b Member) int { return strings.Compare(a.Name, b.Name) })
	for i := 1; i < len(members); i++ {
		if members[i-1].Name == members[i].Name {
			return Value{}, false
		}
	}
	return Value{Kind: Object, Members: members}, true
}

func number() reader[int64] {
	return oneOf(digits, changed(after("-", digits), negative))
}

const numberBound = 1 << 53

func digits(s string) (int64, string, bool) {
	end := 0
	for end < len(s) && '0' <= s[end] && s[end] <= '9' {
		end++
	}
	if end > 1 && s[0] == '0' {
		return fail[int64]()
	}
	n, err := strconv.ParseInt(s[:end], 10, 64)
	if err != nil || n >= numberBound {
		return fail[int64]()
	}
	return n, s[end:], true
}

func negative(n int64) (int64, bool) { return -n, n != 0 }

func quoted() reader[string] {
	unit := after(`\u`, fourHex)
	single := changed(unit, wholeRune)
	pair := both(unit, unit, pairedRune)
	return changed(after(`"`, until(`"`, oneOf(plainRune, shortEscape(), single, pair))), runesText)
}

func runesText(runes []rune) (string, bool) { return string(runes), true }

func shortEscape() reader[rune] {
	return oneOf(
		word(`\"`, '"'),
		word(`\\`, '\\'),
		word(`\/`, '/'),
		word(`\b`, '\b'),
		word(`\f`, '\f'),
		word(`\n`, '\n'),
		word(`\r`, '\r'),
		word(`\t`, '\t'),
	)
}

func plainRune(s string) (rune, string, bool) {
	r, size := utf8.DecodeRuneInString(s)
	// The rune of an error may stand in a text as well, but then it has three bytes.
	wrong := r == utf8.RuneError && size < 2
	if wrong || r < ' ' || r == '"' || r == '\\' {
		return fail[rune]()
	}
	return r, s[size:], true
}

func fourHex(s string) (rune, string, bool) {
	if len(s) < 4 {
		return fail[rune]()
	}
	var n rune
	for i := range 4 {
		digit, ok := hexDigit(s[i])
		if !ok {
			return fail[rune]()
		}
		n = n<<4 | digit
	}
	return n, s[4:], true
}

func hexDigit(c byte) (rune, bool) {
	switch {
	case '0' <= c && c <= '9':
		return rune(c - '0'), true
	case 'a' <= c && c <= 'f':
		return rune(c-'a') + 10, true
	case 'A' <= c && c <= 'F':
		return rune(c-'A') + 10, true
	}
	return 0, false
}

const (
	firstHigh = 0xD800
	firstLow  = 0xDC00
	lastLow   = 0xDFFF
)

func wholeRune(unit rune) (rune, bool) { return unit, unit < firstHigh || lastLow < unit }

func pairedRune(high, low rune) (rune, bool) {
	if high < firstHigh || firstLow <= high || low < firstLow || lastLow < low {
		return 0, false
	}
	return 65536 + 1024*(high-firstHigh) + (low - firstLow), true
}
