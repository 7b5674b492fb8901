package json_test

import (
	"reflect"
	"strings"
	"testing"

	"signet/api"
	"signet/json"
)

func number(n int64) json.Value        { return json.Value{Kind: json.Number, Number: n} }
func text(s string) json.Value         { return json.Value{Kind: json.String, Text: s} }
func array(v ...json.Value) json.Value { return json.Value{Kind: json.Array, Items: v} }
func object(m ...json.Member) json.Value {
	return json.Value{Kind: json.Object, Members: m}
}

func TestRead(t *testing.T) {
	for s, want := range map[string]json.Value{
		"null":                {Kind: json.Null},
		" true ":              {Kind: json.True},
		"false":               {Kind: json.False},
		"0":                   number(0),
		"-9007199254740991":   number(-9007199254740991),
		`""`:                  text(""),
		`"\u0041\n"`:          text("A\n"),
		"[ ]":                 array(),
		"[1,[\"\"]]":          array(number(1), array(text(""))),
		"{ }":                 object(),
		`{"b":1,"a":{"c":2}}`: object(json.Member{Name: "a", Value: object(json.Member{Name: "c", Value: number(2)})}, json.Member{Name: "b", Value: number(1)}),
	} {
		if v, e := json.Read(s); !reflect.DeepEqual(v, want) || e != api.OK {
			t.Errorf("P4: Read(%q) = %v, %d, want %v", s, v, e, want)
		}
	}
}

func TestReadRefuses(t *testing.T) {
	for s, want := range map[string]api.Errno{
		"": api.ErrForm, "[1": api.ErrForm, `{"a":1,"a":2}`: api.ErrForm, "1 1": api.ErrForm,
		strings.Repeat(" ", 4001): api.ErrLong,
	} {
		if v, e := json.Read(s); !reflect.DeepEqual(v, json.Value{}) || e != want {
			t.Errorf("P1: Read(%.80q) = %v, %d, want %d", s, v, e, want)
		}
	}
}

func TestReadGivesFreshMemory(t *testing.T) {
	const s = `{"a":[1,2],"b":[1,2]}`
	one, _ := json.Read(s)
	other, _ := json.Read(s)
	one.Members[0].Value.Items[0] = text("changed")
	one.Members[0].Name = "changed"
	if other.Form() != s {
		t.Errorf("P2: a change of one answer changed another one to %q", other.Form())
	}
	if one.Form() != `{"changed":["changed",2],"b":[1,2]}` {
		t.Errorf("P2: a change of one list changed another one: %q", one.Form())
	}
}

func TestForm(t *testing.T) {
	v := object(
		json.Member{Name: "\"", Value: array(number(-1), json.Value{Kind: json.Null}, json.Value{Kind: json.True})},
		json.Member{Name: "\\", Value: text("\x00\x1f /\x7f\u00e4")},
		json.Member{Name: "a", Value: array(object(), array(), json.Value{Kind: json.False})},
	)
	want := "{\"\\\"\":[-1,null,true],\"\\\\\":\"\\u0000\\u001f /\x7f\u00e4\",\"a\":[{},[],false]}"
	if s := v.Form(); s != want {
		t.Errorf("P4: Form() = %q, want %q", s, want)
	}
}
