// Package json: the values of JSON, how they are read, and their one form: see DOC.md.
package json

import (
	"strconv"
	"strings"

	"signet/api"
)

// Kind of a value.
type Kind int

const (
	Null Kind = iota
	False
	True
	Number
	String
	Array
	Object
)

// Value of JSON. Of the fields behind Kind just the one that belongs to it is filled.
type Value struct {
	Kind    Kind
	Number  int64
	Text    string
	Items   []Value
	Members []Member // by the bytes of their names
}

// Member of an object.
type Member struct {
	Name  string
	Value Value
}

// Read is the value that a text of JSON stands for.
func Read(s string) (Value, api.Errno) {
	if len(s) > api.MaxText {
		return Value{}, api.ErrLong
	}
	v, rest, ok := document()(s)
	if !ok || rest != "" {
		return Value{}, api.ErrForm
	}
	return v, api.OK
}

// Form is the one form of a value.
func (v Value) Form() string {
	var out strings.Builder
	v.write(&out)
	return out.String()
}

func (v Value) write(out *strings.Builder) {
	switch v.Kind {
	case Null:
		out.WriteString("null")
	case False:
		out.WriteString("false")
	case True:
		out.WriteString("true")
	case Number:
		out.WriteString(strconv.FormatInt(v.Number, 10))
	case String:
		writeText(out, v.Text)
	case Array:
		writeItems(out, v.Items)
	case Object:
		writeMembers(out, v.Members)
	}
}

func writeItems(out *strings.Builder, items []Value) {
	out.WriteByte('[')
	for i, item := range items {
		if i > 0 {
			out.WriteByte(',')
		}
		item.write(out)
	}
	out.WriteByte(']')
}

func writeMembers(out *strings.Builder, members []Member) {
	out.WriteByte('{')
	for i, member := range members {
		if i > 0 {
			out.WriteByte(',')
		}
		writeText(out, member.Name)
		out.WriteByte(':')
		member.Value.write(out)
	}
	out.WriteByte('}')
}

const hexDigits = "0123456789abcdef"

// Going by bytes is enough: none of those that are written otherwise is a part of a longer rune.
func writeText(out *strings.Builder, text string) {
	out.WriteByte('"')
	for i := range len(text) {
		c := text[i]
		switch {
		case c == '"' || c == '\\':
			out.WriteByte('\\')
			out.WriteByte(c)
		case c < ' ':
			out.WriteString(`\u00`)
			out.WriteByte(hexDigits[c>>4])
			out.WriteByte(hexDigits[c&15])
		default:
			out.WriteByte(c)
		}
	}
	out.WriteByte('"')
}
