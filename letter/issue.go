package letter

import (
	"signet/api"
	"signet/code"
	"signet/hash"
	"signet/sign"
)

func issue(keys, kid, bodyText string) (string, error) {
	set, err := load(keys)
	if err != nil {
		return "", err
	}
	key, err := find(set, kid)
	if err != nil {
		return "", err
	}
	if key.Alg == edDSA && key.Private == "" {
		return "", at("d", fault{api.ErrPrivate, "not there"})
	}
	if len(bodyText) > api.MaxBody {
		return "", at("body", fault{api.ErrLong, "too long"})
	}
	b, err := readBody(bodyText)
	if err != nil {
		return "", at("body", err)
	}
	head := objectForm(textMember("alg", key.Alg), textMember("kid", key.Kid))
	signed := code.Encode(head) + "." + code.Encode(b.form)
	return signed + "." + code.Encode(signature(key, signed)), nil
}

func signature(key api.Key, signed string) string {
	if key.Alg == hs256 {
		return hash.Mac(key.Public, signed)
	}
	s, _ := sign.Sign(key.Private, signed) // the seed was read as one: there is no error
	return s
}
