package json

import "strings"

// A reader reads what stands at the beginning of a text: what it means, and the rest of the text behind it.
type reader[T any] func(s string) (got T, rest string, ok bool)

func fail[T any]() (T, string, bool) {
	var none T
	return none, "", false
}

// word reads just that text.
func word[T any](text string, meaning T) reader[T] {
	return func(s string) (T, string, bool) {
		rest, ok := strings.CutPrefix(s, text)
		if !ok {
			return fail[T]()
		}
		return meaning, rest, true
	}
}

// oneOf reads what the first of the choices reads that can. The choices given to it differ in
// their first bytes or are short, so that no long part of a text is gone through again and again.
func oneOf[T any](choices ...reader[T]) reader[T] {
	return func(s string) (T, string, bool) {
		for _, choice := range choices {
			if got, rest, ok := choice(s); ok {
				return got, rest, true
			}
		}
		return fail[T]()
	}
}

// changed makes something else of what was read, or refuses it.
func changed[T, U any](inner reader[T], change func(T) (U, bool)) reader[U] {
	return func(s string) (U, string, bool) {
		got, rest, ok := inner(s)
		if !ok {
			return fail[U]()
		}
		made, ok := change(got)
		if !ok {
			return fail[U]()
		}
		return made, rest, true
	}
}

// both reads one thing and then another, and makes one of the two, or refuses them.
func both[T, U, V any](first reader[T], second reader[U], join func(T, U) (V, bool)) reader[V] {
	return func(s string) (V, string, bool) {
		one, rest, ok := first(s)
		if !ok {
			return fail[V]()
		}
		other, rest, ok := second(rest)
		if !ok {
			return fail[V]()
		}
		made, ok := join(one, other)
		if !ok {
			return fail[V]()
		}
		return made, rest, true
	}
}

// after reads a text and what follows it, and keeps the latter.
func after[T any](text string, inner reader[T]) reader[T] {
	return func(s string) (T, string, bool) {
		rest, ok := strings.CutPrefix(s, text)
		if !ok {
			return fail[T]()
		}
		return inner(rest)
	}
}

// padded reads what may have blanks ahead of it and behind it.
func padded[T any](inner reader[T]) reader[T] {
	return func(s string) (T, string, bool) {
		got, rest, ok := inner(skipBlanks(s))
		if !ok {
			return fail[T]()
		}
		return got, skipBlanks(rest), true
	}
}

func skipBlanks(s string) string {
	return strings.TrimLeft(s, " \t\n\r")
}

// until reads items, perhaps none, one right behind the other up to a text, and that.
// Every item has to take up a byte at least.
func until[T any](shut string, item reader[T]) reader[[]T] {
	return func(s string) ([]T, string, bool) {
		var all []T
		for {
			if rest, ok := strings.CutPrefix(s, shut); ok {
				return all, rest, true
			}
			got, rest, ok := item(s)
			if !ok {
				return fail[[]T]()
			}
			all = append(all, got)
			s = rest
		}
	}
}

// list reads items, perhaps none, with commas between two, in brackets. The blanks round an item
// are for its own reader to take.
func list[T any](open, shut string, item reader[T]) reader[[]T] {
	empty := padded(word[[]T](shut, nil))
	others := until(shut, after(",", item))
	some := both(item, others, func(one T, more []T) ([]T, bool) {
		return append([]T{one}, more...), true
	})
	return after(open, oneOf(empty, some))
}
