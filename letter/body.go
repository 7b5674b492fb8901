package letter

import (
	"math"
	"slices"

	"signet/api"
	"signet/json"
)

// body is what was read of a letter's body, and its one form.
type body struct {
	exp, nbf limit
	iss      string
	aud      []string
	form     string
}

// limit is a time, if there is one.
type limit struct {
	there bool
	time  int64
}

func readBody(s string) (body, error) {
	m, err := parse(s, api.ErrBody)
	if err != nil {
		return body{}, err
	}
	b := body{form: m.whole.Form()}
	err = m.read(
		perhaps("exp", into(&b.exp, limitOf)),
		perhaps("nbf", into(&b.nbf, limitOf)),
		perhaps("iss", into(&b.iss, text)),
		perhaps("aud", into(&b.aud, oneOrMore)),
	)
	return b, err
}

func limitOf(v json.Value) (limit, bool) {
	return limit{true, v.Number}, v.Kind == json.Number
}

func oneOrMore(v json.Value) ([]string, bool) {
	if one, ok := text(v); ok {
		return []string{one}, true
	}
	return listOf(text)(v)
}

// allows says what there is in a body against what is asked at that time.
func (b body) allows(asked api.Asked, now int64) error {
	leeway := max(int64(asked.Leeway), 0)
	switch {
	case b.exp.there && sum(now, -leeway) >= b.exp.time:
		return at("exp", fault{api.ErrLate, "too late"})
	case b.nbf.there && sum(now, leeway) < b.nbf.time:
		return at("nbf", fault{api.ErrEarly, "too early"})
	case asked.Audience != "" && !slices.Contains(b.aud, asked.Audience):
		return at("aud", fault{api.ErrAudience, "for others"})
	case asked.Issuer != "" && b.iss != asked.Issuer:
		return at("iss", fault{api.ErrIssuer, "by another one"})
	}
	return nil
}

// sum stops at the ends of the numbers. As the times of a body lie far from both ends, the true
// sum lies on the same side of them.
func sum(a, b int64) int64 {
	switch {
	case b > 0 && a > math.MaxInt64-b:
		return math.MaxInt64
	case b < 0 && a < math.MinInt64-b:
		return math.MinInt64
	}
	return a + b
}
