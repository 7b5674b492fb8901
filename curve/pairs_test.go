package curve_test

import (
	"encoding/hex"
	"math/big"
	"math/rand"
	"slices"
	"strings"
	"testing"
)

// A pair is a point as the document has it. What the tests reckon with pairs stands on nothing of the package.
type pair struct{ x, y *big.Int }

func whole(s string) *big.Int {
	n, ok := new(big.Int).SetString(s, 10)
	if !ok {
		panic("no number: " + s)
	}
	return n
}

func pow(n uint) *big.Int { return new(big.Int).Lsh(big.NewInt(1), n) }

var (
	one   = big.NewInt(1)
	prime = new(big.Int).Sub(pow(255), big.NewInt(19))
	order = new(big.Int).Add(pow(252), whole("27742317777372353535851937790883648493"))
	d     = divided(big.NewInt(-121665), big.NewInt(121666))
)

func mod(n *big.Int) *big.Int { return new(big.Int).Mod(n, prime) }

func plus(x, y *big.Int) *big.Int { return mod(new(big.Int).Add(x, y)) }

func minus(x, y *big.Int) *big.Int { return mod(new(big.Int).Sub(x, y)) }

func mul(factors ...*big.Int) *big.Int {
	out := one
	for _, f := range factors {
		out = mod(new(big.Int).Mul(out, f))
	}
	return out
}

// divided takes y^(p-2) as 1/y.
func divided(x, y *big.Int) *big.Int {
	return mul(x, new(big.Int).Exp(mod(y), new(big.Int).Sub(prime, big.NewInt(2)), prime))
}

func onCurve(p pair) bool {
	left := minus(mul(p.y, p.y), mul(p.x, p.x))
	return left.Cmp(plus(one, mul(d, p.x, p.x, p.y, p.y))) == 0
}

func pairSum(p, q pair) pair {
	m := mul(d, p.x, q.x, p.y, q.y)
	return pair{
		divided(plus(mul(p.x, q.y), mul(q.x, p.y)), plus(one, m)),
		divided(plus(mul(p.y, q.y), mul(p.x, q.x)), minus(one, m)),
	}
}

func negative(p pair) pair { return pair{minus(big.NewInt(0), p.x), p.y} }

// pairTimes adds n times, so n is to be small.
func pairTimes(n int, p pair) pair {
	out := pair{big.NewInt(0), one}
	for range n {
		out = pairSum(out, p)
	}
	return out
}

// low is 32 bytes, the lowest first, of a number below 2^256.
func low(n *big.Int) string {
	b := n.FillBytes(make([]byte, 32))
	slices.Reverse(b)
	return string(b)
}

func pairBytes(p pair) string { return bytesOf(p.y, p.x.Bit(0)) }

func bytesOf(y *big.Int, odd uint) string {
	return low(new(big.Int).SetBit(y, 255, odd))
}

// pairAt looks for an x by the powers that are roots if there is one, and asks the curve itself.
func pairAt(y *big.Int, odd uint) (pair, bool) {
	if y.Cmp(prime) >= 0 {
		return pair{}, false
	}
	square := divided(minus(mul(y, y), one), plus(one, mul(d, y, y)))
	eighth := new(big.Int).Rsh(new(big.Int).Add(prime, big.NewInt(3)), 3)
	x := new(big.Int).Exp(square, eighth, prime)
	fourth := new(big.Int).Rsh(prime, 2)
	rootOfMinusOne := new(big.Int).Exp(big.NewInt(2), fourth, prime)
	for _, by := range []*big.Int{one, rootOfMinusOne} {
		for _, found := range []*big.Int{mul(x, by), minus(big.NewInt(0), mul(x, by))} {
			if p := (pair{found, y}); onCurve(p) && found.Bit(0) == odd {
				return p, true
			}
		}
	}
	return pair{}, false
}

// somePairs are pairs of all orders: the base, points of no known order, the eight small points, and sums of these.
func somePairs(t *testing.T) []pair {
	t.Helper()
	out := smallPairs(t)
	r := rand.New(rand.NewSource(3))
	for len(out) < 20 {
		if p, ok := pairAt(new(big.Int).Rand(r, prime), uint(len(out)%2)); ok {
			out = append(out, p, negative(p), pairSum(p, out[1]))
		}
	}
	base, ok := pairAt(divided(big.NewInt(4), big.NewInt(5)), 0)
	if !ok {
		t.Fatal("no base")
	}
	return append(out, base, pairSum(base, out[1]))
}

// eighthPoint is a point that is (0, 1) when added eight times, and no earlier.
const eighthPoint = "26e8958fc2b227b045c3f489f2ef98f0d5dfac05d3c63339b13802886d53fc05"

// smallPairs are the multiples of eighthPoint, the first of which is (0, 1).
func smallPairs(t *testing.T) []pair {
	t.Helper()
	b, err := hex.DecodeString(eighthPoint)
	if err != nil {
		t.Fatal(err)
	}
	slices.Reverse(b)
	p, ok := pairAt(new(big.Int).SetBytes(b), 0)
	if !ok {
		t.Fatal("no point of order 8")
	}
	var out []pair
	names := map[string]int{}
	for n := range 8 {
		out = append(out, pairTimes(n, p))
		names[pairBytes(out[n])] = n
	}
	if len(names) != 8 || pairBytes(pairTimes(8, p)) != pairBytes(out[0]) {
		t.Fatal("the small points are not eight")
	}
	return out
}

func TestNumbersOfTheTests(t *testing.T) {
	if !prime.ProbablyPrime(20) || !order.ProbablyPrime(20) {
		t.Error("p or L is not prime")
	}
	if got := hex.EncodeToString([]byte(low(order))); got != "edd3f55c1a631258d69cf7a2def9de14"+strings.Repeat("00", 15)+"10" {
		t.Errorf("L is %s", got)
	}
}
