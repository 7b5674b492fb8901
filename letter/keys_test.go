package letter_test

import (
	"math/big"
	"reflect"
	"slices"
	"strconv"
	"strings"
	"testing"

	"signet/api"
	"signet/letter"
)

func loads(t *testing.T, set string) []api.Key {
	t.Helper()
	got, e := letter.Load(set)
	if e != api.OK {
		t.Fatalf("P7: Load(%.300q): %d, want keys", set, e)
	}
	return got
}

func refuses(t *testing.T, set string, want api.Errno) {
	t.Helper()
	if got, e := letter.Load(set); got != nil || e != want {
		t.Errorf("P7: Load(%.300q) = %v, %d, want %d", set, got, e, want)
	}
}

func TestLoadGivesKeysInOrder(t *testing.T) {
	oct := api.Key{Kid: "h", Alg: "HS256", Public: secret, Thumb: thumbOf(`{"k":"` + b64(secret) + `","kty":"oct"}`)}
	okp := api.Key{Kid: "e", Alg: "EdDSA", Public: public, Private: seed, Thumb: thumbOf(`{"crv":"Ed25519","kty":"OKP","x":"` + b64(public) + `"}`)}
	open := api.Key{Kid: "o", Alg: "EdDSA", Public: public, Thumb: okp.Thumb}
	for _, c := range []struct {
		set  string
		want []api.Key
	}{
		{setOf(octKey), []api.Key{oct}},
		{setOf(octKey, okpKey, openKey), []api.Key{oct, okp, open}},
		{setOf(openKey, octKey, okpKey), []api.Key{open, oct, okp}},
		{" \n" + strings.ReplaceAll(setOf(okpKey, octKey), ":", " :\t") + "\r ", []api.Key{okp, oct}},
	} {
		if got := loads(t, c.set); !reflect.DeepEqual(got, c.want) {
			t.Errorf("P7: Load(%.300q) = %+v, want %+v", c.set, got, c.want)
		}
	}
}

// The keys of RFC 8037, appendix A.1, and its thumb in A.3, which has the same form.
func TestLoadOfAKnownKey(t *testing.T) {
	known := okpKey.with("x", `"11qYAYKxCrfVS_7TyWQHOg7hcvPapiMlrwIaaPcHURo"`).with("d", `"nWGxne_9WmC6hEr0kuwsxERJxWl7MmkZcDusAxyuf2A"`)
	if got := loads(t, setOf(known)); got[0].Thumb != "kPrK_qmxVWaYVA9wwBF6Iuo3vVzz7TxHCTwXBygrS4k" {
		t.Errorf("P7: thumb %q", got[0].Thumb)
	}
}

func TestLoadRefusesWhatIsNoSet(t *testing.T) {
	for _, set := range []string{
		"", " ", "x", "null", "[]", `"keys"`, "1", "{}", "[" + octKeys + "]", octKeys + "x", octKeys[1:], octKeys + octKeys,
		`{"key":[` + octKey.String() + `]}`, `{"Keys":[` + octKey.String() + `]}`,
		`{"keys":` + octKey.String() + `}`, `{"keys":[[` + octKey.String() + `]]}`,
		`{"keys":[` + octKey.String() + `],"keys":[` + octKey.String() + `]}`,
		`{"keys":[` + octKey.String() + `,null]}`, `{"keys":[1,` + octKey.String() + `]}`,
		strings.Replace(octKeys, `"h"`, `"h","kid":"g"`, 1),
		strings.Replace(octKeys, `"h"`, "\"\xff\"", 1),
	} {
		refuses(t, set, api.ErrKeys)
	}
	for _, value := range append(wrongKinds(), `""`, "[[]]", "[{}]", "[null]", `["x"]`) {
		refuses(t, `{"keys":`+value+`}`, api.ErrKeys)
	}
}

func TestLoadBoundsTheText(t *testing.T) {
	loads(t, filled(octKeys, api.MaxText))
	refuses(t, filled(octKeys, api.MaxText+1), api.ErrLong)
	refuses(t, filled("no set", api.MaxText), api.ErrKeys)
	refuses(t, filled("no set", api.MaxText+1), api.ErrLong)
	refuses(t, strings.Repeat("[", 1<<20), api.ErrLong)
}

func manyKeys(count int) []members {
	var all []members
	for i := range count {
		all = append(all, octKey.with("kid", quoted("k"+strconv.Itoa(i))))
	}
	return all
}

func TestLoadBoundsTheCount(t *testing.T) {
	refuses(t, setOf(), api.ErrKeys)
	for count := 1; count <= api.MaxKeys; count++ {
		got := loads(t, setOf(manyKeys(count)...))
		if len(got) != count {
			t.Errorf("P7: %d keys of %d", len(got), count)
		}
		for i, key := range got {
			if key.Kid != "k"+strconv.Itoa(i) {
				t.Errorf("P7: key %d of %d is %q", i, count, key.Kid)
			}
		}
	}
	refuses(t, setOf(manyKeys(api.MaxKeys+1)...), api.ErrKeys)
	refuses(t, setOf(manyKeys(api.MaxKeys+2)...), api.ErrKeys)
}

func TestLoadRefusesOneWrongKeyAmongOthers(t *testing.T) {
	for i := range api.MaxKeys {
		all := manyKeys(api.MaxKeys)
		all[i] = all[i].without("k")
		refuses(t, setOf(all...), api.ErrKeys)
	}
}

func TestLoadRefusesTwoKidsAlike(t *testing.T) {
	for first := range api.MaxKeys {
		for second := first + 1; second < api.MaxKeys; second++ {
			all := manyKeys(api.MaxKeys)
			all[second] = all[second].with("kid", all[first]["kid"])
			refuses(t, setOf(all...), api.ErrKeys)
		}
	}
	refuses(t, setOf(octKey, openKey.with("kid", `"h"`)), api.ErrKeys)
	refuses(t, setOf(octKey, octKey.with("kid", `"\u0068"`)), api.ErrKeys)
	loads(t, setOf(octKey, octKey.with("kid", `"H"`)))
}

func TestLoadBoundsTheKid(t *testing.T) {
	for _, kid := range []string{"k", " ", "\x00", "\u00e4", strings.Repeat("k", 20), strings.Repeat("\u00e4", 10), strings.Repeat("\x01", 20), "\"\\/.\u2028", "\U0001f511"} {
		for _, key := range []members{octKey, openKey} {
			if got := loads(t, setOf(key.with("kid", quoted(kid)))); got[0].Kid != kid {
				t.Errorf("P7: kid %q, want %q", got[0].Kid, kid)
			}
		}
	}
	for _, kid := range []string{"", strings.Repeat("k", 21), strings.Repeat("\u00e4", 10) + "k", strings.Repeat("\u20ac", 7), strings.Repeat("\x01", 21)} {
		refuses(t, setOf(octKey.with("kid", quoted(kid))), api.ErrKeys)
		refuses(t, setOf(openKey.with("kid", quoted(kid))), api.ErrKeys)
	}
}

func TestLoadNeedsEveryMember(t *testing.T) {
	for _, key := range []members{octKey, okpKey} {
		for name := range key {
			if name != "d" {
				refuses(t, setOf(key.without(name)), api.ErrKeys)
				refuses(t, setOf(key.without(name).with(strings.ToUpper(name), key[name])), api.ErrKeys)
			}
			for _, value := range wrongKinds("string") {
				refuses(t, setOf(key.with(name, value)), api.ErrKeys)
				refuses(t, setOf(key.with(name, "["+key[name]+"]")), api.ErrKeys)
			}
			refuses(t, setOf(key.with(name, `""`)), api.ErrKeys)
			if name != "kid" {
				refuses(t, setOf(key.with(name, `"x"`)), api.ErrKeys)
			}
		}
	}
}

func TestLoadTakesJustTheWords(t *testing.T) {
	for _, c := range []struct {
		key   members
		name  string
		wrong []string
	}{
		{octKey, "kty", []string{"OCT", "Oct", "OKP", "oct ", "RSA", "EC"}},
		{octKey, "alg", []string{"hs256", "EdDSA", "none", "HS512", "HS384", "HS256 "}},
		{okpKey, "kty", []string{"okp", "oct", "OKP ", "EC"}},
		{okpKey, "alg", []string{"HS256", "none", "eddsa", "Ed25519", "ES256"}},
		{okpKey, "crv", []string{"ed25519", "Ed448", "X25519", "P-256"}},
	} {
		for _, word := range c.wrong {
			refuses(t, setOf(c.key.with(c.name, quoted(word))), api.ErrKeys)
		}
	}
	mixed := octKey.with("crv", okpKey["crv"]).with("x", okpKey["x"]).with("d", okpKey["d"])
	refuses(t, setOf(mixed.with("alg", `"EdDSA"`)), api.ErrKeys)
	refuses(t, setOf(mixed.with("kty", `"OKP"`)), api.ErrKeys)
	if got := loads(t, setOf(mixed)); got[0].Alg != "HS256" || got[0].Public != secret || got[0].Private != "" {
		t.Errorf("P7: a key of both kinds' members: %+v", got)
	}
}

func TestLoadPassesOverOtherMembers(t *testing.T) {
	values := append(wrongKinds(), `""`, "[{}]", `{"kid":[]}`)
	for _, value := range values {
		for _, name := range []string{"crv", "x", "d", "use", "K", "keys", "", "crit"} {
			if !reflect.DeepEqual(loads(t, setOf(octKey.with(name, value))), loads(t, setOf(octKey))) {
				t.Errorf("P7: a key hangs on its member %q", name)
			}
		}
		for _, name := range []string{"k", "use", "D", "y", ""} {
			if !reflect.DeepEqual(loads(t, setOf(openKey.with(name, value))), loads(t, setOf(openKey))) {
				t.Errorf("P7: a key hangs on its member %q", name)
			}
		}
		if got := loads(t, members{"keys": "[" + octKey.String() + "]", "kid": value, "Keys": value}.String()); len(got) != 1 {
			t.Errorf("P7: a set hangs on other members: %v", got)
		}
	}
}

func TestLoadBoundsTheSecret(t *testing.T) {
	for size := range 80 {
		k := strings.Repeat("\xfb", size)
		set := setOf(octKey.with("k", quoted(b64(k))))
		if size < 32 || 64 < size {
			refuses(t, set, api.ErrKeys)
			continue
		}
		got := loads(t, set)
		if got[0].Public != k || got[0].Thumb != thumbOf(`{"k":"`+b64(k)+`","kty":"oct"}`) {
			t.Errorf("P7: a secret of %d bytes: %+v", size, got)
		}
	}
}

// spoilt are texts that are no base64 of the bytes, but nearly.
func spoilt(bytes string) []string {
	s := b64(bytes)
	last := s[:len(s)-1]
	wrong := []string{s + "=", s + "==", " " + s, s + " ", s + "\n", last, s + ".", strings.Repeat("+", len(s)), strings.Repeat("/", len(s)), s + "AA="}
	for _, c := range "ABCDEFGHIJKLMNOPQRSTUVWXYZabcdefghijklmnopqrstuvwxyz0123456789-_" {
		if 8*len(bytes)%6 != 0 && last+string(c) != s {
			wrong = append(wrong, last+string(c))
		}
	}
	return wrong
}

func TestLoadTakesJustBase64(t *testing.T) {
	for _, key := range []struct {
		members
		name, bytes string
	}{{octKey, "k", secret}, {okpKey, "x", public}, {okpKey, "d", seed}} {
		for _, s := range spoilt(key.bytes) {
			set := setOf(key.with(key.name, quoted(s)))
			if got, e := letter.Load(set); e == api.OK && b64(got[0].Public) != s {
				t.Errorf("P7: %s %q is let by", key.name, s)
			} else if e != api.OK && (got != nil || e != api.ErrKeys) {
				t.Errorf("P7: %s %q: %v, %d", key.name, s, got, e)
			}
		}
	}
}

// pointBytes are 32 bytes, the lowest first, with the highest bit set if odd.
func pointBytes(y *big.Int, odd bool) string {
	b := y.FillBytes(make([]byte, 32))
	slices.Reverse(b)
	if odd {
		b[31] |= 128
	}
	return string(b)
}

func TestLoadTakesJustPoints(t *testing.T) {
	p := new(big.Int).Sub(new(big.Int).Lsh(big.NewInt(1), 255), big.NewInt(19))
	minusOne := new(big.Int).Sub(p, big.NewInt(1))
	of := func(x string) string { return setOf(openKey.with("x", quoted(b64(x)))) }
	base := new(big.Int).Mul(big.NewInt(4), new(big.Int).ModInverse(big.NewInt(5), p))
	base.Mod(base, p)
	for _, x := range []string{pointBytes(base, false), pointBytes(base, true), pointBytes(big.NewInt(1), false), pointBytes(minusOne, false), pointBytes(big.NewInt(0), false), pointBytes(big.NewInt(0), true)} {
		if got := loads(t, of(x)); got[0].Public != x || got[0].Private != "" {
			t.Errorf("P7: Load of a point: %+v", got)
		}
	}
	for _, x := range []string{pointBytes(big.NewInt(2), false), pointBytes(big.NewInt(2), true), pointBytes(big.NewInt(1), true), pointBytes(minusOne, true), "", public[1:], public + "\x00", public + public, secret + secret} {
		refuses(t, of(x), api.ErrKeys)
	}
	for i := range int64(19) {
		y := new(big.Int).Add(p, big.NewInt(i))
		refuses(t, of(pointBytes(y, false)), api.ErrKeys)
		refuses(t, of(pointBytes(y, true)), api.ErrKeys)
	}
}

func TestLoadHoldsTheSeedAgainstThePoint(t *testing.T) {
	other := strings.Repeat("f", 32)
	if got := loads(t, setOf(okpKey.with("d", quoted(b64(other))).with("x", quoted(b64(publicOf(other)))))); got[0].Private != other || got[0].Public != publicOf(other) {
		t.Errorf("P7: Load of another seed: %+v", got)
	}
	for _, d := range []string{other, "", seed[1:], seed + "e", seed + seed, public, seed[:31] + "\xff"} {
		refuses(t, setOf(okpKey.with("d", quoted(b64(d)))), api.ErrKeys)
	}
	refuses(t, setOf(okpKey.with("x", quoted(b64(publicOf(other))))), api.ErrKeys)
	var full []members
	for i := range api.MaxKeys {
		full = append(full, okpKey.with("kid", quoted(strconv.Itoa(i))))
	}
	if got := loads(t, setOf(full...)); got[7].Kid != "7" || got[7].Private != seed {
		t.Errorf("P7: Load of eight seeds: %+v", got)
	}
}
