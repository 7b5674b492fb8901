package hash

import (
	"math/big"
	"testing"
)

func primes(count int) []int64 {
	var out []int64
	for n := int64(2); len(out) < count; n++ {
		if big.NewInt(n).ProbablyPrime(0) {
			out = append(out, n)
		}
	}
	return out
}

// behindPoint is the first 64 bits behind the point of a root of n, tried bit by bit.
func behindPoint(n, degree int64) uint64 {
	shifted := new(big.Int).Lsh(big.NewInt(n), uint(64*degree))
	root := new(big.Int)
	for bit := 70; bit >= 0; bit-- {
		tried := new(big.Int).SetBit(root, bit, 1)
		if new(big.Int).Exp(tried, big.NewInt(degree), nil).Cmp(shifted) <= 0 {
			root = tried
		}
	}
	behind := new(big.Int).And(root, new(big.Int).SetUint64(^uint64(0)))
	return behind.Uint64()
}

func TestRoots(t *testing.T) {
	for i, p := range primes(len(squareRoots)) {
		if want := behindPoint(p, 2); squareRoots[i] != want {
			t.Errorf("P5: square root of %d: %x, want %x", p, squareRoots[i], want)
		}
	}
	for i, p := range primes(len(cubeRoots)) {
		if want := behindPoint(p, 3); cubeRoots[i] != want {
			t.Errorf("P5: cube root of %d: %x, want %x", p, cubeRoots[i], want)
		}
	}
}
