package letter

import (
	"slices"
	"strconv"

	"signet/api"
	"signet/code"
	"signet/curve"
	"signet/hash"
	"signet/json"
	"signet/sign"
)

const (
	hs256       = "HS256"
	edDSA       = "EdDSA"
	secretKind  = "oct"
	pointKind   = "OKP"
	curveName   = "Ed25519"
	leastSecret = 32
	mostSecret  = 64
)

func load(keys string) ([]api.Key, error) {
	set, err := readSet(keys)
	return set, at("set", err)
}

func readSet(s string) ([]api.Key, error) {
	if len(s) > api.MaxText {
		return nil, fault{api.ErrLong, "too long"}
	}
	m, err := parse(s, api.ErrKeys)
	if err != nil {
		return nil, err
	}
	var items []json.Value
	if err := m.read(needed("keys", into(&items, such(array, counted)))); err != nil {
		return nil, err
	}
	var set []api.Key
	for i, item := range items {
		key, err := nextKey(set, item)
		if err != nil {
			return nil, at("keys", at(strconv.Itoa(i), err))
		}
		set = append(set, key)
	}
	return set, nil
}

func counted(keys []json.Value) bool { return 1 <= len(keys) && len(keys) <= api.MaxKeys }

// nextKey reads a key that is to stand behind those of a set.
func nextKey(set []api.Key, v json.Value) (api.Key, error) {
	key, err := readKey(v)
	if err != nil {
		return api.Key{}, err
	}
	if _, err := find(set, key.Kid); err == nil {
		return api.Key{}, at("kid", fault{api.ErrKeys, "another key's"})
	}
	return key, nil
}

// find is the key of that kid.
func find(set []api.Key, kid string) (api.Key, error) {
	i := slices.IndexFunc(set, func(key api.Key) bool { return key.Kid == kid })
	if i < 0 {
		return api.Key{}, at("kid", fault{api.ErrKid, "no key's"})
	}
	return set[i], nil
}

func readKey(v json.Value) (api.Key, error) {
	m, err := membersOf(v, api.ErrKeys)
	if err != nil {
		return api.Key{}, err
	}
	var kid, kty string
	err = m.read(
		needed("kid", into(&kid, such(text, sized(1, api.MaxKid)))),
		needed("kty", into(&kty, text)),
	)
	if err != nil {
		return api.Key{}, err
	}
	switch kty {
	case secretKind:
		return readSecret(m, kid)
	case pointKind:
		return readPoint(m, kid)
	}
	return api.Key{}, at("kty", fault{api.ErrKeys, "no kind of keys"})
}

func readSecret(m members, kid string) (api.Key, error) {
	var k string
	err := m.read(
		needed("alg", is(hs256)),
		needed("k", into(&k, such(base64, sized(leastSecret, mostSecret)))),
	)
	if err != nil {
		return api.Key{}, err
	}
	thumb := thumbOf(textMember("k", code.Encode(k)), textMember("kty", secretKind))
	return api.Key{Kid: kid, Alg: hs256, Public: k, Thumb: thumb}, nil
}

func readPoint(m members, kid string) (api.Key, error) {
	var x, d string
	isSeed := func(seed string) bool {
		public, e := sign.Public(seed)
		return e == api.OK && public == x
	}
	err := m.read(
		needed("crv", is(curveName)),
		needed("alg", is(edDSA)),
		needed("x", into(&x, such(base64, isPoint))),
		perhaps("d", into(&d, such(base64, isSeed))), // behind x, which it is held against
	)
	if err != nil {
		return api.Key{}, err
	}
	thumb := thumbOf(textMember("crv", curveName), textMember("kty", pointKind), textMember("x", code.Encode(x)))
	return api.Key{Kid: kid, Alg: edDSA, Public: x, Private: d, Thumb: thumb}, nil
}

func isPoint(bytes string) bool {
	_, ok := curve.New().Read(bytes)
	return ok
}

func thumbOf(given ...json.Member) string {
	return code.Encode(hash.Sum256(objectForm(given...)))
}

func textMember(name, value string) json.Member {
	return json.Member{Name: name, Value: json.Value{Kind: json.String, Text: value}}
}

// objectForm is the one form of an object whose members are given in their order.
func objectForm(given ...json.Member) string {
	return json.Value{Kind: json.Object, Members: given}.Form()
}
