package letter_test

import (
	"crypto/ed25519"
	"crypto/hmac"
	"crypto/sha256"
	"encoding/base64"
	"encoding/json"
	"maps"
	"slices"
	"strings"
)

// Keys and letters for the tests, made by the library of Go.

var (
	secret = strings.Repeat("s", 31) + "\xff"
	seed   = strings.Repeat("e", 31) + "\xfe"
	pair   = ed25519.NewKeyFromSeed([]byte(seed))
	public = publicOf(seed)

	octKey  = members{"kid": `"h"`, "kty": `"oct"`, "alg": `"HS256"`, "k": quoted(b64(secret))}
	okpKey  = members{"kid": `"e"`, "kty": `"OKP"`, "crv": `"Ed25519"`, "alg": `"EdDSA"`, "x": quoted(b64(public)), "d": quoted(b64(seed))}
	openKey = okpKey.without("d").with("kid", `"o"`)

	keys    = setOf(octKey, okpKey, openKey)
	octKeys = setOf(octKey)
)

func b64(s string) string { return base64.RawURLEncoding.EncodeToString([]byte(s)) }

func unb64(s string) string {
	b, err := base64.RawURLEncoding.DecodeString(s)
	if err != nil {
		panic(err)
	}
	return string(b)
}

func quoted(s string) string {
	b, err := json.Marshal(s)
	if err != nil {
		panic(err)
	}
	return string(b)
}

func publicOf(seed string) string {
	return string(ed25519.NewKeyFromSeed([]byte(seed)).Public().(ed25519.PublicKey))
}

// members of an object: JSON by names.
type members map[string]string

func (m members) with(name, value string) members {
	n := maps.Clone(m)
	n[name] = value
	return n
}

func (m members) without(name string) members {
	n := maps.Clone(m)
	delete(n, name)
	return n
}

func (m members) String() string {
	var all []string
	for _, name := range slices.Sorted(maps.Keys(m)) {
		all = append(all, quoted(name)+":"+m[name])
	}
	return "{" + strings.Join(all, ",") + "}"
}

func setOf(keys ...members) string {
	var all []string
	for _, key := range keys {
		all = append(all, key.String())
	}
	return `{"keys":[` + strings.Join(all, ",") + "]}"
}

// filled fills a text up to so many bytes, with blanks behind it.
func filled(s string, size int) string { return s + strings.Repeat(" ", size-len(s)) }

func macOf(key, s string) string {
	m := hmac.New(sha256.New, []byte(key))
	m.Write([]byte(s))
	return string(m.Sum(nil))
}

func thumbOf(form string) string {
	sum := sha256.Sum256([]byte(form))
	return b64(string(sum[:]))
}

// maced is a letter that the secret signed.
func maced(head, body string) string {
	signed := b64(head) + "." + b64(body)
	return signed + "." + b64(macOf(secret, signed))
}

// sealed is a letter that the seed signed.
func sealed(head, body string) string {
	signed := b64(head) + "." + b64(body)
	return signed + "." + b64(string(ed25519.Sign(pair, []byte(signed))))
}

const (
	octHead = `{"alg":"HS256","kid":"h"}`
	okpHead = `{"alg":"EdDSA","kid":"e"}`
)

// wrongKinds are values of every kind, but for those of the kinds that are named.
func wrongKinds(right ...string) []string {
	kinds := members{
		"null": "null", "bool": "true", "number": "1", "string": `"x"`, "array": "[]", "object": "{}",
	}
	for _, name := range right {
		delete(kinds, name)
	}
	return slices.Sorted(maps.Values(kinds))
}
