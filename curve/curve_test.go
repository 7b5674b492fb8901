package curve_test

import (
	"encoding/hex"
	"math/big"
	"math/rand"
	"strings"
	"testing"

	"signet/curve"
)

// read is the package's point of a pair.
func read(t *testing.T, c curve.Curve, p pair) curve.Point {
	t.Helper()
	out, ok := c.Read(pairBytes(p))
	if !ok {
		t.Fatalf("P6: the bytes %x are a point's", pairBytes(p))
	}
	return out
}

func TestNumbers(t *testing.T) {
	c := curve.New()
	if c.Order.Cmp(order) != 0 {
		t.Errorf("P6: L is %v", c.Order)
	}
	if got := hex.EncodeToString([]byte(c.Write(c.Base()))); got != "58"+strings.Repeat("66", 31) {
		t.Errorf("P6: B is %s", got)
	}
	if got := c.Write(c.Times(order, c.Base())); got != low(one) {
		t.Errorf("P6: L * B is %x, want (0, 1)", got)
	}
}

func TestPlus(t *testing.T) {
	c := curve.New()
	pairs := somePairs(t)
	for _, p := range pairs {
		for _, q := range pairs {
			got := c.Write(c.Plus(read(t, c, p), read(t, c, q)))
			if want := pairBytes(pairSum(p, q)); got != want {
				t.Errorf("P6: %x + %x = %x, want %x", pairBytes(p), pairBytes(q), got, want)
			}
		}
	}
}

// TestPlusOfSums takes points whose fractions are not whole.
func TestPlusOfSums(t *testing.T) {
	c := curve.New()
	pairs := somePairs(t)
	sum, want := read(t, c, pairs[9]), pairs[9]
	for _, p := range pairs {
		sum = c.Plus(c.Plus(sum, sum), c.Plus(read(t, c, p), sum))
		want = pairSum(pairTimes(3, want), p)
		if got := c.Write(sum); got != pairBytes(want) {
			t.Fatalf("P6: a sum is %x, want %x", got, pairBytes(want))
		}
	}
}

func TestTimes(t *testing.T) {
	c := curve.New()
	for _, p := range somePairs(t) {
		for n := range 20 {
			got := c.Write(c.Times(big.NewInt(int64(n)), read(t, c, p)))
			if want := pairBytes(pairTimes(n, p)); got != want {
				t.Errorf("P6: %d * %x = %x, want %x", n, pairBytes(p), got, want)
			}
		}
	}
}

func TestTimesOfGreatNumbers(t *testing.T) {
	c := curve.New()
	r := rand.New(rand.NewSource(4))
	for _, p := range somePairs(t)[:12] {
		n, m := new(big.Int).Rand(r, pow(256)), new(big.Int).Rand(r, order)
		point := read(t, c, p)
		got := c.Plus(c.Times(n, point), c.Times(m, point))
		if want := c.Times(new(big.Int).Add(n, m), point); c.Write(got) != c.Write(want) {
			t.Errorf("P6: %v * P + %v * P is not the multiple of both", n, m)
		}
	}
}

// edgesOfY are numbers of 255 bits: all at the ends and about p, and some between.
func edgesOfY() []*big.Int {
	var out []*big.Int
	for n := range int64(60) {
		out = append(out, big.NewInt(n), new(big.Int).Sub(pow(255), big.NewInt(n+1)))
	}
	r := rand.New(rand.NewSource(5))
	for range 100 {
		out = append(out, new(big.Int).Rand(r, pow(255)))
	}
	return out
}

func TestRead(t *testing.T) {
	c := curve.New()
	var points, none int
	for _, y := range edgesOfY() {
		for odd := range uint(2) {
			b := bytesOf(y, odd)
			p, ok := c.Read(b)
			if _, want := pairAt(y, odd); ok != want {
				t.Errorf("P6: that %x are a point's bytes is %t", b, ok)
				continue
			}
			if !ok {
				none++
				continue
			}
			points++
			if got := c.Write(p); got != b {
				t.Errorf("P6: the point of %x has the bytes %x", b, got)
			}
		}
	}
	if points < 100 || none < 100 {
		t.Errorf("only %d points and %d that are none were tried", points, none)
	}
}

// TestReadsNoSecondForm: no point has two forms of its bytes.
func TestReadsNoSecondForm(t *testing.T) {
	c := curve.New()
	for n := range int64(19) {
		for odd := range uint(2) {
			if b := bytesOf(new(big.Int).Add(prime, big.NewInt(n)), odd); isRead(c, b) {
				t.Errorf("P6: %x are a point's bytes, with a y of p + %d", b, n)
			}
		}
	}
	for _, y := range []*big.Int{one, new(big.Int).Sub(prime, one)} {
		if !isRead(c, bytesOf(y, 0)) || isRead(c, bytesOf(y, 1)) {
			t.Errorf("P6: at y = %v, x = 0 is even alone", y)
		}
	}
}

func isRead(c curve.Curve, b string) bool {
	_, ok := c.Read(b)
	return ok
}

func TestReadAtOtherLengths(t *testing.T) {
	c := curve.New()
	for _, b := range []string{strings.Repeat(c.Write(c.Base()), 4), low(one) + strings.Repeat("\x00", 70)} {
		for n := range 100 {
			if got := isRead(c, b[:n]); got != (n == 32) {
				t.Errorf("P6: that the bytes %x are a point's is %t", b[:n], got)
			}
		}
	}
}

func TestNumbersHaveTheLowestByteFirst(t *testing.T) {
	for s, want := range map[string]int64{"": 0, "\x01": 1, "\x00\x01": 256, "\x02\x01\x00": 258} {
		if got := curve.Number(s); got.Cmp(big.NewInt(want)) != 0 {
			t.Errorf("P6: Number(%q) is %v", s, got)
		}
	}
	if got := curve.Bytes(big.NewInt(258)); got != "\x02\x01"+strings.Repeat("\x00", 30) {
		t.Errorf("P6: Bytes(258) is %x", got)
	}
}
