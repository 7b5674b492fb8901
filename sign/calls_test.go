package sign_test

import (
	"math/rand"
	"strings"
	"sync"
	"testing"

	"signet/api"
	"signet/sign"
)

func TestOtherLengthsOfSeeds(t *testing.T) {
	for n := range 130 {
		if n == 32 {
			continue
		}
		seed := strings.Repeat("a", n)
		if s, e := sign.Public(seed); s != "" || e != api.ErrArg {
			t.Errorf("P6: Public of %d bytes: %x, %d", n, s, e)
		}
		if s, e := sign.Sign(seed, "x"); s != "" || e != api.ErrArg {
			t.Errorf("P6: Sign with %d bytes: %x, %d", n, s, e)
		}
	}
}

func TestOtherLengthsOfKeysAndSignatures(t *testing.T) {
	public, signature := made(t, strings.Repeat("a", 32), "x")
	for n := range 130 {
		short := strings.Repeat(public, 5)[:n]
		if got := sign.Holds(short, "x", signature); got != (n == 32) {
			t.Errorf("P6: with a key of %d bytes it holds: %t", n, got)
		}
		short = strings.Repeat(signature, 3)[:n]
		if got := sign.Holds(public, "x", short); got != (n == 64) {
			t.Errorf("P6: with a signature of %d bytes it holds: %t", n, got)
		}
	}
}

// TestNoughtsLeftOutOrAdded: with the key (0, 1) neither sum nor number tells such bytes from the right ones; their length alone does.
func TestNoughtsLeftOutOrAdded(t *testing.T) {
	right := zeroPoint + strings.Repeat("\x00", 70)
	for n := range 100 {
		if got := sign.Holds(right[:n], "x", right[:64]); got != (n == 32) {
			t.Errorf("P6: with a key of %d bytes it holds: %t", n, got)
		}
		if got := sign.Holds(right[:32], "x", right[:n]); got != (n == 64) {
			t.Errorf("P6: with a signature of %d bytes it holds: %t", n, got)
		}
	}
}

// TestCallsEnd asks at keys and signatures that are one byte all along, or any bytes.
func TestCallsEnd(t *testing.T) {
	r := rand.New(rand.NewSource(6))
	for n := range 256 {
		one := string([]byte{byte(n)})
		key, signature := strings.Repeat(one, 32), strings.Repeat(one, 64)
		check(t, key, one, signature)
		check(t, someBytes(r, 32), one, someBytes(r, 64))
		check(t, someBytes(r, n), one, someBytes(r, n))
	}
}

type answers struct {
	public, signature string
	holds, holdsNot   bool
}

func ask(seed, s string) answers {
	public, _ := sign.Public(seed)
	signature, _ := sign.Sign(seed, s)
	return answers{public, signature, sign.Holds(public, s, signature), sign.Holds(public, s+"x", signature)}
}

func TestNoCallKnowsOfAnother(t *testing.T) {
	r := rand.New(rand.NewSource(7))
	var all sync.WaitGroup
	for range 8 {
		seed, s := someBytes(r, 32), someBytes(r, 10)
		first := ask(seed, s)
		for range 4 {
			all.Go(func() {
				if ask(seed, s) != first {
					t.Errorf("P2: at %x the answers are other ones than before", seed)
				}
			})
		}
	}
	all.Wait()
}
