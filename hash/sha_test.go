package hash

import (
	"math/big"
	"strings"
	"testing"
)

// wantEnding writes the ending down as the document has it, the count by numbers that have no bound.
func wantEnding(rest string, length, block int) string {
	counted := block / 8
	bits := new(big.Int).Mul(big.NewInt(int64(length)), big.NewInt(8))
	out := rest + "\x80"
	for (len(out)+counted)%block != 0 {
		out += "\x00"
	}
	return out + string(bits.FillBytes(make([]byte, counted)))
}

// Texts with a count of more than 32 bits are too long to make here, so the ending is asked alone.
func TestEndings(t *testing.T) {
	for _, width := range []int{32, 64} {
		m := measure{width: width}
		for _, whole := range []int{0, 1 << 10, 1 << 28, 1<<29 - 1<<7, 1 << 29, 1 << 32, 1 << 40, 1<<61 - 1<<7} {
			for n := range m.block() {
				rest := strings.Repeat("r", n)
				if got, want := ending(rest, whole+n, m), wantEnding(rest, whole+n, m.block()); got != want {
					t.Errorf("P5: ending of a text of %d bytes, words of %d bits: %x, want %x", whole+n, width, got, want)
				}
			}
		}
	}
	m, length := measure{width: 64}, 1<<63-1
	if got, want := ending("", length, m), wantEnding("", length, m.block()); got != want {
		t.Errorf("P5: ending of the longest text: %x, want %x", got, want)
	}
}
