package letter

import (
	"strings"

	"signet/api"
	"signet/code"
	"signet/hash"
	"signet/sign"
)

func verify(keys, letter string, asked api.Asked, now int) (api.Claims, error) {
	set, err := load(keys)
	if err != nil {
		return api.Claims{}, err
	}
	claims, err := open(set, letter, asked, int64(now))
	return claims, at("letter", err)
}

func open(set []api.Key, letter string, asked api.Asked, now int64) (api.Claims, error) {
	l, err := split(letter)
	if err != nil {
		return api.Claims{}, err
	}
	key, err := l.signer(set, asked.Known)
	if err != nil {
		return api.Claims{}, err
	}
	b, err := readBody(l.body)
	if err != nil {
		return api.Claims{}, at("body", err)
	}
	return api.Claims{Kid: key.Kid, Body: b.form}, at("body", b.allows(asked, now))
}

// parts of a letter: bytes, but for what is signed.
type parts struct{ head, body, signature, signed string }

func split(letter string) (parts, error) {
	if len(letter) > api.MaxLetter {
		return parts{}, fault{api.ErrLong, "too long"}
	}
	texts := strings.Split(letter, ".")
	if len(texts) != 3 {
		return parts{}, fault{api.ErrForm, "not three parts"}
	}
	var bytes [3]string
	for i, one := range texts {
		b, e := code.Decode(one)
		if e != api.OK {
			return parts{}, fault{api.ErrForm, "no base64"}
		}
		bytes[i] = b
	}
	return parts{bytes[0], bytes[1], bytes[2], texts[0] + "." + texts[1]}, nil
}

// signer is the key that signed a letter.
func (l parts) signer(set []api.Key, known []string) (api.Key, error) {
	h, err := readHead(l.head, known)
	if err != nil {
		return api.Key{}, at("head", err)
	}
	key, err := find(set, h.kid)
	if err != nil {
		return api.Key{}, at("head", err)
	}
	if key.Alg != h.alg {
		return api.Key{}, at("head", at("alg", fault{api.ErrAlg, "another one than the key's"}))
	}
	if !l.signedBy(key) {
		return api.Key{}, at("signature", fault{api.ErrSign, "not right"})
	}
	return key, nil
}

func (l parts) signedBy(key api.Key) bool {
	if key.Alg == hs256 {
		return same(l.signature, hash.Mac(key.Public, l.signed))
	}
	return sign.Holds(key.Public, l.signed, l.signature)
}

// same goes through all bytes whatever it finds: else the time it takes would tell a stranger how
// far a guessed signature is right.
func same(a, b string) bool {
	if len(a) != len(b) {
		return false
	}
	var differing byte
	for i := range len(a) {
		differing |= a[i] ^ b[i]
	}
	return differing == 0
}
