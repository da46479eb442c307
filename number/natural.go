package number

import (
	"math/bits"
	"slices"
)

const (
	wordBits = 32
	// groupDigits digits fill a word, as far as whole digits can.
	groupDigits = 9
)

// natural is a whole number from 0 on, of any size: the lowest word first, the highest one not 0.
type natural struct {
	words []uint32
}

func newNatural(n uint64) *natural {
	made := &natural{words: []uint32{uint32(n), uint32(n >> wordBits)}}
	made.trim()
	return made
}

// fromDigits is the number that these digits are, as they are written.
func fromDigits(digits []byte) *natural {
	made := newNatural(0)
	for group := range slices.Chunk(digits, groupDigits) {
		unit, value := uint32(1), uint32(0)
		for _, digit := range group {
			unit *= 10
			value = value*10 + uint32(digit-'0')
		}
		made.timesPlus(unit, value)
	}
	return made
}

func (n *natural) clone() *natural {
	return &natural{words: slices.Clone(n.words)}
}

// trim keeps the highest word from being 0, which lengths and comparing lean on.
func (n *natural) trim() {
	for len(n.words) > 0 && n.words[len(n.words)-1] == 0 {
		n.words = n.words[:len(n.words)-1]
	}
}

// timesPlus makes it factor times as great, and more by plus; factor is not 0.
func (n *natural) timesPlus(factor, plus uint32) {
	carry := uint64(plus)
	for i, word := range n.words {
		carry += uint64(word) * uint64(factor)
		n.words[i] = uint32(carry)
		carry >>= wordBits
	}
	if carry != 0 {
		n.words = append(n.words, uint32(carry))
	}
}

func (n *natural) timesPowerOfTen(power int) {
	for power > 0 {
		factor := uint32(1)
		for range min(power, groupDigits) {
			factor *= 10
		}
		n.timesPlus(factor, 0)
		power -= groupDigits
	}
}

// shiftLeft makes it 2^by times as great; by is not below 0.
func (n *natural) shiftLeft(by int) {
	if whole := by / wordBits; whole > 0 && len(n.words) > 0 {
		n.words = append(make([]uint32, whole), n.words...)
	}
	if part := by % wordBits; part > 0 {
		n.timesPlus(1<<part, 0)
	}
}

// subtract makes it less by m, which is not greater than it.
func (n *natural) subtract(m *natural) {
	borrow := uint32(0)
	for i := range n.words {
		word := uint32(0)
		if i < len(m.words) {
			word = m.words[i]
		}
		n.words[i], borrow = bits.Sub32(n.words[i], word, borrow)
	}
	n.trim()
}

// compare is below 0, 0 or above 0, as n is less than m, the same or greater.
func (n *natural) compare(m *natural) int {
	if len(n.words) != len(m.words) {
		return len(n.words) - len(m.words)
	}
	for i := len(n.words) - 1; i >= 0; i-- {
		if n.words[i] < m.words[i] {
			return -1
		}
		if n.words[i] > m.words[i] {
			return 1
		}
	}
	return 0
}

// length is how many bits it has, from the highest that is 1 on.
func (n *natural) length() int {
	if len(n.words) == 0 {
		return 0
	}
	top := len(n.words) - 1
	return top*wordBits + bits.Len32(n.words[top])
}
