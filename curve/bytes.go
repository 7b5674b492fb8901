package curve

import (
	"math/big"
	"slices"
)

// Size is how many bytes a point and a scalar have.
const Size = 32

const parityBit = 8*Size - 1

// Number is the number of bytes of which the lowest is the first.
func Number(b string) *big.Int {
	highestFirst := []byte(b)
	slices.Reverse(highestFirst)
	return new(big.Int).SetBytes(highestFirst)
}

// Bytes are those of a number from 0 up to 2^256, the lowest first.
func Bytes(n *big.Int) string {
	b := n.FillBytes(make([]byte, Size))
	slices.Reverse(b)
	return string(b)
}

// Write is a point's bytes.
func (c Curve) Write(p Point) string {
	x, y := c.over(p.x, p.z), c.over(p.y, p.z)
	return Bytes(y.SetBit(y, parityBit, x.Bit(0)))
}

// Read is the point of which b are the bytes, if there is one.
func (c Curve) Read(b string) (Point, bool) {
	if len(b) != Size {
		return Point{}, false
	}
	y := Number(b)
	odd := y.Bit(parityBit)
	y.SetBit(y, parityBit, 0)
	if y.Cmp(c.prime) >= 0 {
		return Point{}, false
	}
	return c.at(y, odd)
}
