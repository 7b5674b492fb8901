package hash

// A word is what a sum is reckoned in.
type word interface{ uint32 | uint64 }

// bits are by how many a word is turned or shifted for one of the four mixes.
type bits [3]int

// A measure is all in which SHA-256 and SHA-512 differ, but for the type of their words.
type measure struct {
	width  int // bits of a word
	rounds int
	bigS0  bits // S0 and S1 of the document: three turns
	bigS1  bits
	lowS0  bits // s0 and s1 of the document: two turns and a shift
	lowS1  bits
}

// block is how many bytes sixteen words have.
func (m measure) block() int { return 16 * m.width / 8 }

// sum takes the whole blocks as they stand in the text, so that a long text is not copied.
func sum[W word](s string, m measure) string {
	var state [8]W
	for i := range state {
		state[i] = top[W](squareRoots[i], m)
	}
	whole := len(s) - len(s)%m.block()
	state = blocks(state, s[:whole], m)
	state = blocks(state, ending(s[whole:], len(s), m), m)
	out := make([]byte, 0, len(state)*m.width/8)
	for _, w := range state {
		out = appendWord(out, uint64(w), m.width)
	}
	return string(out)
}

// top is the first bits of a root: those of SHA-256 are the first halves of those of SHA-512.
func top[W word](root uint64, m measure) W { return W(root >> (64 - m.width)) }

// ending is the rest of a text that fills no block, and what is put behind it to fill one or two.
func ending(rest string, length int, m measure) string {
	counted := 2 * m.width / 8
	out := append([]byte(rest), 128)
	for (len(out)+counted)%m.block() != 0 {
		out = append(out, 0)
	}
	if counted == 16 {
		out = appendWord(out, uint64(length)>>61, 64) // what the times 8 pushes out below
	}
	return string(appendWord(out, uint64(length)<<3, 64))
}

func appendWord(out []byte, w uint64, width int) []byte {
	for at := width - 8; at >= 0; at -= 8 {
		out = append(out, byte(w>>at))
	}
	return out
}

func blocks[W word](state [8]W, s string, m measure) [8]W {
	for len(s) > 0 {
		state = mixed(state, schedule[W](s[:m.block()], m), m)
		s = s[m.block():]
	}
	return state
}

// schedule is the words of a block, and the further ones that are made of them.
func schedule[W word](block string, m measure) [80]W {
	var w [80]W
	size := m.width / 8
	for i := range len(block) {
		w[i/size] = w[i/size]<<8 | W(block[i])
	}
	for t := 16; t < m.rounds; t++ {
		w[t] = lowMix(w[t-2], m.lowS1, m.width) + w[t-7] + lowMix(w[t-15], m.lowS0, m.width) + w[t-16]
	}
	return w
}

// mixed is the eight words behind a block.
func mixed[W word](state [8]W, w [80]W, m measure) [8]W {
	a, b, c, d := state[0], state[1], state[2], state[3]
	e, f, g, h := state[4], state[5], state[6], state[7]
	for t := range m.rounds {
		x := h + bigMix(e, m.bigS1, m.width) + (e&f ^ ^e&g) + top[W](cubeRoots[t], m) + w[t]
		y := bigMix(a, m.bigS0, m.width) + (a&b ^ a&c ^ b&c)
		h, g, f, e = g, f, e, d+x
		d, c, b, a = c, b, a, x+y
	}
	for i, v := range [8]W{a, b, c, d, e, f, g, h} {
		state[i] += v
	}
	return state
}

func bigMix[W word](x W, by bits, width int) W {
	return turn(x, by[0], width) ^ turn(x, by[1], width) ^ turn(x, by[2], width)
}

func lowMix[W word](x W, by bits, width int) W {
	return turn(x, by[0], width) ^ turn(x, by[1], width) ^ x>>by[2]
}

// turn is x turned to the right by n bits.
func turn[W word](x W, n, width int) W { return x>>n | x<<(width-n) }
