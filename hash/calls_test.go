package hash_test

import (
	"math/rand"
	"slices"
	"strings"
	"sync"
	"testing"

	"signet/hash"
)

// hardTexts are empty, broken UTF-8, of every byte and of every length about a block.
func hardTexts() []string {
	texts := []string{"", "\x80", "\xff\xfe", "\xed\xa0\x80", "\x00", strings.Repeat("\x00", 128), strings.Repeat("\xff", 1<<16)}
	r := rand.New(rand.NewSource(7))
	for n := range 260 {
		texts = append(texts, strings.Repeat(string([]byte{byte(n)}), n), someBytes(r, n))
	}
	return texts
}

func TestCallsEnd(t *testing.T) {
	for _, s := range hardTexts() {
		if a, b, c := len(hash.Sum256(s)), len(hash.Sum512(s)), len(hash.Mac(s, s)); a != 32 || b != 64 || c != 32 {
			t.Errorf("P1: at %.80q the sums have %d, %d and %d bytes", s, a, b, c)
		}
	}
}

type answers struct{ sum256, sum512, macOfKey, macOfText string }

func ask(s string) answers {
	return answers{hash.Sum256(s), hash.Sum512(s), hash.Mac(s, "text"), hash.Mac("key", s)}
}

func TestNoCallKnowsOfAnother(t *testing.T) {
	texts := hardTexts()
	first := make([]answers, len(texts))
	for i, s := range texts {
		first[i] = ask(s)
	}
	var all sync.WaitGroup
	for i, s := range slices.Backward(texts) {
		all.Go(func() {
			if ask(s) != first[i] {
				t.Errorf("P2: at %.80q the answers are other ones than before", s)
			}
		})
	}
	all.Wait()
}
