package code_test

import (
	"math/rand"
	"strings"
	"sync"
	"testing"

	"signet/api"
	"signet/code"
)

// hardTexts are what a reader might stumble over: broken off, of odd bytes, long, deep.
func hardTexts() []string {
	texts := []string{"", `"\ud800\u`, `{"a":[{"b":"\`, strings.Repeat(`{"":`, 1000), strings.Repeat("[[],", 1000), strings.Repeat("[", 1<<20)}
	whole := `{"a":[1,-2,"\u0041\ud834\udd1e\n"],"b":{"c":null,"d":[true,false]}}`
	for i := range len(whole) {
		texts = append(texts, whole[:i], whole[i:])
	}
	for i := range 256 {
		one := string([]byte{byte(i)})
		texts = append(texts, one, `"`+one, `"\`+one, `"\u`+one, "["+one, "{"+one, "-"+one, "1"+one, strings.Repeat(one, 4000), strings.Repeat(one, 4001))
	}
	r := rand.New(rand.NewSource(5))
	for range 2000 {
		b := make([]byte, r.Intn(60))
		r.Read(b)
		texts = append(texts, string(b))
	}
	return texts
}

func TestCallsEnd(t *testing.T) {
	for _, s := range hardTexts() {
		code.Encode(s)
		if b, e := code.Decode(s); e != api.OK && (b != "" || e != api.ErrForm) {
			t.Errorf("P1: Decode(%.80q) = %.80q, %d", s, b, e)
		}
		if u, e := code.Form(s); e != api.OK && u != "" {
			t.Errorf("P1: Form(%.80q) = %.80q, %d", s, u, e)
		}
	}
}

func TestFirstErrorIsAnswered(t *testing.T) {
	for _, s := range hardTexts() {
		_, e := code.Form(s)
		if (len(s) > api.MaxText) != (e == api.ErrLong) {
			t.Errorf("P1: Form(%.80q) of %d bytes: %d", s, len(s), e)
		}
	}
}

type answers struct {
	encoded, decoded, form string
	decodeErr, formErr     api.Errno
}

func ask(s string) answers {
	var a answers
	a.encoded = code.Encode(s)
	a.decoded, a.decodeErr = code.Decode(s)
	a.form, a.formErr = code.Form(s)
	return a
}

func TestNoCallKnowsOfAnother(t *testing.T) {
	texts := append(hardTexts(), "Zm9v", `{"b":1,"a":[]}`, `"a"`, "Zh", `{"a":1,"a":2}`)
	first := make([]answers, len(texts))
	for i, s := range texts {
		first[i] = ask(s)
	}
	var all sync.WaitGroup
	for worker := range 4 {
		all.Go(func() {
			for n := range texts {
				i := len(texts) - 1 - n
				if worker%2 == 0 {
					i = n
				}
				if ask(texts[i]) != first[i] {
					t.Errorf("P2: at %.80q the answers are other ones than before", texts[i])
				}
			}
		})
	}
	all.Wait()
}
