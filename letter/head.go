package letter

import "signet/api"

type head struct{ alg, kid string }

// readHead reads a head of which what is critical has to be known.
func readHead(s string, known []string) (head, error) {
	m, err := parse(s, api.ErrHead)
	if err != nil {
		return head{}, err
	}
	var h head
	err = m.read(
		needed("alg", into(&h.alg, text)),
		needed("kid", into(&h.kid, text)),
		perhaps("typ", is("JWT")),
	)
	if err != nil {
		return head{}, err
	}
	return h, at("crit", m.readCrit(known))
}

// readCrit comes behind all that has a meaning of its own. That and crit itself are taken out by
// then, and so is each name once it was read: a name that is not left is wrong, whatever the cause.
func (m members) readCrit(known []string) error {
	crit, there := m.take("crit")
	if !there {
		return nil
	}
	names, ok := listOf(text)(crit)
	if !ok || len(names) == 0 {
		return fault{api.ErrCrit, "no list of names"}
	}
	critical := map[string]struct{}{}
	for _, name := range names {
		if _, there := m.take(name); !there {
			return at(name, fault{api.ErrCrit, "no other member, or named twice"})
		}
		critical[name] = struct{}{}
	}
	for _, name := range known {
		delete(critical, name)
	}
	if len(critical) > 0 {
		return fault{api.ErrCrit, "not known"}
	}
	return nil
}
