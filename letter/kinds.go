package letter

import (
	"signet/api"
	"signet/code"
	"signet/json"
)

// A kind makes of a value what it stands for, if the value is of that kind.
type kind[T any] func(v json.Value) (got T, ok bool)

func text(v json.Value) (string, bool) { return v.Text, v.Kind == json.String }

func array(v json.Value) ([]json.Value, bool) { return v.Items, v.Kind == json.Array }

// base64 gives the bytes.
func base64(v json.Value) (string, bool) {
	bytes, e := code.Decode(v.Text)
	return bytes, v.Kind == json.String && e == api.OK
}

func listOf[T any](item kind[T]) kind[[]T] {
	return func(v json.Value) ([]T, bool) {
		var list []T
		for _, one := range v.Items {
			got, ok := item(one)
			if !ok {
				return nil, false
			}
			list = append(list, got)
		}
		return list, v.Kind == json.Array
	}
}

// such takes of a kind just what is right.
func such[T any](inner kind[T], right func(T) bool) kind[T] {
	return func(v json.Value) (T, bool) {
		got, ok := inner(v)
		return got, ok && right(got)
	}
}

func sized(least, most int) func(string) bool {
	return func(s string) bool { return least <= len(s) && len(s) <= most }
}

// A check says whether a value is right.
type check func(v json.Value) bool

func is(word string) check {
	return func(v json.Value) bool { return v.Kind == json.String && v.Text == word }
}

// into keeps what was read.
func into[T any](kept *T, read kind[T]) check {
	return func(v json.Value) bool {
		got, ok := read(v)
		*kept = got
		return ok
	}
}
