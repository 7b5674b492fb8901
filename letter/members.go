package letter

import (
	"signet/api"
	"signet/json"
)

// members are those of a whole object that were not read yet. What is wrong with one of them has
// that number.
type members struct {
	whole  json.Value
	left   map[string]json.Value
	number api.Errno
}

// parse reads a text that has to be an object.
func parse(s string, number api.Errno) (members, error) {
	v, e := json.Read(s)
	if e != api.OK {
		return members{}, fault{number, "no JSON"}
	}
	return membersOf(v, number)
}

func membersOf(v json.Value, number api.Errno) (members, error) {
	if v.Kind != json.Object {
		return members{}, fault{number, "no object"}
	}
	left := map[string]json.Value{}
	for _, member := range v.Members {
		left[member.Name] = member.Value
	}
	return members{v, left, number}, nil
}

// take takes a member out, so that none is read twice.
func (m members) take(name string) (json.Value, bool) {
	v, there := m.left[name]
	delete(m.left, name)
	return v, there
}

// A field takes a member out of an object and reads it.
type field func(m members) error

func (m members) read(fields ...field) error {
	for _, one := range fields {
		if err := one(m); err != nil {
			return err
		}
	}
	return nil
}

func needed(name string, right check) field {
	return func(m members) error {
		v, there := m.take(name)
		if !there {
			return at(name, fault{m.number, "not there"})
		}
		if !right(v) {
			return at(name, fault{m.number, "not as it has to be"})
		}
		return nil
	}
}

func perhaps(name string, right check) field {
	always := needed(name, right)
	return func(m members) error {
		if _, there := m.left[name]; !there {
			return nil
		}
		return always(m)
	}
}
