package sign_test

import (
	"crypto/sha512"
	"math/big"
	"math/rand"
	"strconv"
	"strings"
	"testing"

	"signet/curve"
	"signet/sign"
)

func less(n *big.Int, by int64) *big.Int { return new(big.Int).Sub(n, big.NewInt(by)) }

func power(n uint) *big.Int { return new(big.Int).Lsh(big.NewInt(1), n) }

var prime = less(power(255), 19)

// zeroPoint is the bytes of (0, 1).
var zeroPoint = curve.Bytes(big.NewInt(1))

// smallPoints are the eight points of which eight times is (0, 1), which is the first of them.
func smallPoints(t *testing.T, c curve.Curve) []curve.Point {
	t.Helper()
	eighth, ok := c.Read(unhex("26e8958fc2b227b045c3f489f2ef98f0d5dfac05d3c63339b13802886d53fc05"))
	if !ok {
		t.Fatal("P6: a point of order 8 is none")
	}
	var out []curve.Point
	for n := range int64(8) {
		out = append(out, c.Times(big.NewInt(n), eighth))
	}
	return out
}

// TestScalarBelowL: with the key (0, 1), S * B = R is all that is asked.
func TestScalarBelowL(t *testing.T) {
	c := curve.New()
	for _, n := range []*big.Int{big.NewInt(0), big.NewInt(1), big.NewInt(2), power(64), power(251), power(252), less(c.Order, 2), less(c.Order, 1)} {
		first := c.Write(c.Times(n, c.Base()))
		if !check(t, zeroPoint, "text", first+curve.Bytes(n)) {
			t.Errorf("P6: it does not hold with S = %v", n)
		}
		for n := new(big.Int).Add(n, c.Order); n.BitLen() <= 256; n.Add(n, c.Order) {
			if check(t, zeroPoint, "text", first+curve.Bytes(n)) {
				t.Errorf("P6: it holds with S = %v, which is not below L", n)
			}
		}
	}
}

func TestGreaterScalarOfASignature(t *testing.T) {
	order := curve.New().Order
	public, signature := made(t, strings.Repeat("s", 32), "text")
	n := new(big.Int).Add(curve.Number(signature[32:]), order)
	for ; n.BitLen() <= 256; n.Add(n, order) {
		if sign.Holds(public, "text", signature[:32]+curve.Bytes(n)) {
			t.Errorf("P6: it holds with S = %v, which is not below L", n)
		}
	}
}

// TestSmallPoints: the equation is asked as it stands, not eight times over, so that small points count.
func TestSmallPoints(t *testing.T) {
	c := curve.New()
	points := smallPoints(t, c)
	held := 0
	for n, a := range points {
		for m, small := range points {
			last := big.NewInt(int64(100*n + m))
			first := c.Write(c.Plus(c.Times(last, c.Base()), small))
			for try := range 4 {
				if check(t, c.Write(a), strconv.Itoa(try), first+curve.Bytes(last)) {
					held++
				}
			}
		}
	}
	if held < 16 || held > 128 {
		t.Errorf("of 256 signatures with small points %d hold", held)
	}
}

// TestSmallPartOfAKey: a key with a small point added to it holds only where k makes nothing of that point.
func TestSmallPartOfAKey(t *testing.T) {
	c := curve.New()
	held := 0
	for try := range 40 {
		s := strconv.Itoa(try)
		key := c.Plus(c.Times(big.NewInt(7), c.Base()), smallPoints(t, c)[2])
		public, first := c.Write(key), c.Write(c.Times(big.NewInt(5), c.Base()))
		k := sumModulo(c, first+public+s)
		last := new(big.Int).Mul(k, big.NewInt(7))
		last.Add(last, big.NewInt(5)).Mod(last, c.Order)
		got := check(t, public, s, first+curve.Bytes(last))
		if want := k.Bit(0) == 0 && k.Bit(1) == 0; got != want {
			t.Errorf("P6: with k = %v it holds: %t", k, got)
		}
		if got {
			held++
		}
	}
	if held == 0 || held == 40 {
		t.Errorf("%d of 40 hold", held)
	}
}

func sumModulo(c curve.Curve, s string) *big.Int {
	h := sha512.Sum512([]byte(s))
	k := curve.Number(string(h[:]))
	return k.Mod(k, c.Order)
}

// secondForms are bytes that are no point's, but would be those of a small point if y or the parity were taken less strictly.
func secondForms() []string {
	var out []string
	odd := power(255)
	for _, y := range []*big.Int{less(prime, 1), prime, less(prime, -1)} {
		out = append(out, curve.Bytes(y), curve.Bytes(new(big.Int).Add(y, odd)))
	}
	out = append(out, curve.Bytes(new(big.Int).Add(big.NewInt(1), odd)))
	return out[1:] // the first one, (0, -1), is a point's
}

func TestSecondForms(t *testing.T) {
	c := curve.New()
	var firsts []string
	for _, p := range smallPoints(t, c) {
		firsts = append(firsts, c.Write(p))
	}
	last := strings.Repeat("\x00", 32)
	for _, b := range secondForms() {
		for try := range 8 {
			s := strconv.Itoa(try)
			for _, first := range firsts {
				if sign.Holds(b, s, first+last) || sign.Holds(first, s, b+last) {
					t.Errorf("P6: it holds with the bytes %x, which are no point's", b)
				}
			}
		}
	}
}

func TestNoPoints(t *testing.T) {
	r := rand.New(rand.NewSource(5))
	c := curve.New()
	public, signature := made(t, strings.Repeat("s", 32), "text")
	tried := 0
	for tried < 20 {
		b := someBytes(r, 32)
		if _, ok := c.Read(b); ok {
			continue
		}
		tried++
		if sign.Holds(b, "text", signature) || sign.Holds(public, "text", b+signature[32:]) || sign.Holds(b, "text", zeroPoint+strings.Repeat("\x00", 32)) {
			t.Errorf("P6: it holds with the bytes %x, which are no point's", b)
		}
	}
}
