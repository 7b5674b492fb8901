package letter

import (
	"errors"
	"strings"
	"testing"

	"signet/api"
)

// wraps tells whether an error says that text and has a fault of that number in it.
func wraps(t *testing.T, err error, text string, number api.Errno) {
	t.Helper()
	var f fault
	if err == nil || err.Error() != text || !errors.As(err, &f) || f.number != number {
		t.Errorf("Ways: the error is %v with the number %d, want %s with %d", err, f.number, text, number)
	}
	if errors.Unwrap(err) == nil {
		t.Errorf("Ways: the error %v wraps none", err)
	}
}

func TestFaultsSayWhere(t *testing.T) {
	secret := `{"kid":"h","kty":"oct","alg":"HS256","k":"` + strings.Repeat("A", 43) + `"}`
	of := func(keys string) error {
		_, err := load(keys)
		return err
	}
	wraps(t, of(strings.Repeat(" ", 4001)), "set: too long", api.ErrLong)
	wraps(t, of("x"), "set: no JSON", api.ErrKeys)
	wraps(t, of("[]"), "set: no object", api.ErrKeys)
	wraps(t, of("{}"), "set: keys: not there", api.ErrKeys)
	wraps(t, of(`{"keys":1}`), "set: keys: not as it has to be", api.ErrKeys)
	wraps(t, of(`{"keys":[`+secret+`,{"kid":"i","kty":"OKP"}]}`), "set: keys: 1: crv: not there", api.ErrKeys)
	wraps(t, of(`{"keys":[`+secret+`,`+secret+`]}`), "set: keys: 1: kid: another key's", api.ErrKeys)

	set := `{"keys":[` + secret + `]}`
	_, err := issue(set, "i", "{}")
	wraps(t, err, "kid: no key's", api.ErrKid)
	_, err = issue(set, "h", `{"exp":""}`)
	wraps(t, err, "body: exp: not as it has to be", api.ErrBody)
	_, err = verify(set, "..", api.Asked{}, 0)
	wraps(t, err, "letter: head: no JSON", api.ErrHead)
	_, err = verify(set, "e30..", api.Asked{}, 0)
	wraps(t, err, "letter: head: alg: not there", api.ErrHead)
}

func TestAnswerAsksWhatIsWrapped(t *testing.T) {
	inner := fault{api.ErrAlg, "x"}
	for _, err := range []error{inner, at("a", inner), at("b", at("a", inner)), errors.Join(errors.New("y"), at("a", inner))} {
		if got, e := answer("got", err); got != "" || e != api.ErrAlg {
			t.Errorf("P1: answer of %v = %q, %d", err, got, e)
		}
	}
	if got, e := answer("got", at("a", nil)); got != "got" || e != api.OK {
		t.Errorf("P1: answer without an error = %q, %d", got, e)
	}
	if got, e := answer("got", errors.New("no fault")); got != "" || e == api.OK {
		t.Errorf("P1: answer of an error without a number = %q, %d", got, e)
	}
}
