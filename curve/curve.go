// Package curve: the points that signatures are made of, and their bytes: see DOC.md, section Signatures.
package curve

import "math/big"

// A Curve is the numbers with which points are reckoned.
type Curve struct {
	Order *big.Int // L of the document
	prime *big.Int
	d     *big.Int
}

// orderRest is what Order is above 2^252.
const orderRest = "27742317777372353535851937790883648493"

// New makes the numbers afresh, as nothing is kept from call to call.
func New() Curve {
	prime := power(255)
	prime.Sub(prime, big.NewInt(19))
	order, _ := new(big.Int).SetString(orderRest, 10)
	order.Add(order, power(252))
	c := Curve{Order: order, prime: prime}
	c.d = c.over(big.NewInt(-121665), big.NewInt(121666))
	return c
}

// power is 2^n.
func power(n uint) *big.Int { return new(big.Int).Lsh(big.NewInt(1), n) }

// A Point is (x/z, y/z), and t/z is the product of both: adding fractions needs no division, which is slow.
type Point struct{ x, y, z, t *big.Int }

func (c Curve) zero() Point { return c.point(new(big.Int), big.NewInt(1)) }

// Base is B of the document.
func (c Curve) Base() Point {
	b, _ := c.at(c.over(big.NewInt(4), big.NewInt(5)), 0)
	return b
}

// Plus is the document's sum with both fractions brought to one bottom. The bottom is never 0, as -1 is a square and d is none.
func (c Curve) Plus(p, q Point) Point {
	x := c.mod(sum(product(p.x, q.y), product(q.x, p.y)))
	y := c.mod(sum(product(p.y, q.y), product(p.x, q.x)))
	z := c.times(p.z, q.z)
	m := c.times(c.d, c.times(p.t, q.t))
	underX, underY := sum(z, m), sum(z, new(big.Int).Neg(m))
	return Point{
		x: c.times(x, underY),
		y: c.times(y, underX),
		z: c.times(underX, underY),
		t: c.times(x, y),
	}
}

// Times is n * p, for an n of at least 0.
func (c Curve) Times(n *big.Int, p Point) Point {
	out := c.zero()
	for i := n.BitLen() - 1; i >= 0; i-- {
		out = c.Plus(out, out)
		if n.Bit(i) == 1 {
			out = c.Plus(out, p)
		}
	}
	return out
}

// point is the point of an x and a y that make one.
func (c Curve) point(x, y *big.Int) Point {
	return Point{x: x, y: y, z: big.NewInt(1), t: c.times(x, y)}
}

// at is the point with that y and an x whose lowest bit is odd, if there is one.
func (c Curve) at(y *big.Int, odd uint) (Point, bool) {
	one, square := big.NewInt(1), c.times(y, y)
	over, under := new(big.Int).Sub(square, one), sum(one, product(c.d, square))
	x := new(big.Int).ModSqrt(c.over(over, under), c.prime)
	if x == nil {
		return Point{}, false
	}
	if x.Bit(0) == odd {
		return c.point(x, y), true
	}
	if x.Sign() == 0 {
		return Point{}, false // 0 has no other root beside itself
	}
	return c.point(x.Sub(c.prime, x), y), true
}

func (c Curve) mod(x *big.Int) *big.Int { return new(big.Int).Mod(x, c.prime) }

func (c Curve) times(x, y *big.Int) *big.Int { return c.mod(product(x, y)) }

// over is x / y, and 0 if y is 0, so that there is nothing at which it panics.
func (c Curve) over(x, y *big.Int) *big.Int {
	inverse := new(big.Int)
	inverse.ModInverse(y, c.prime) // leaves inverse as it is if there is none
	return c.times(x, inverse)
}

func sum(x, y *big.Int) *big.Int { return new(big.Int).Add(x, y) }

func product(x, y *big.Int) *big.Int { return new(big.Int).Mul(x, y) }
