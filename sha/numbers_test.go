package sha_test

import (
	"math/big"
	"slices"
	"testing"

	"vitrine/sha"
)

// fraction is the first 32 bits behind the point of a number's square root (power 2) or cube root (power 3).
func fraction(n int64, power int64) int {
	wanted := new(big.Int).Lsh(big.NewInt(n), uint(32*power))
	root := new(big.Int)
	for bit := 40; bit >= 0; bit-- {
		next := new(big.Int).SetBit(root, bit, 1)
		if new(big.Int).Exp(next, big.NewInt(power), nil).Cmp(wanted) <= 0 {
			root = next
		}
	}
	return int(root.Int64() % modulus)
}

// primes are the first n of them.
func primes(n int) []int64 {
	var list []int64
	for p := int64(2); len(list) < n; p++ {
		if !slices.ContainsFunc(list, func(q int64) bool { return p%q == 0 }) {
			list = append(list, p)
		}
	}
	return list
}

// P14.1: the chapter's numbers, which the model has, are those of the standard: of the roots of the first primes.
func TestChapterNumbers(t *testing.T) {
	var constants, state []int
	for _, p := range primes(64) {
		constants = append(constants, fraction(p, 3))
	}
	for _, p := range primes(8) {
		state = append(state, fraction(p, 2))
	}
	m := chapterModel()
	if !slices.Equal(m.constants, constants) || !slices.Equal(m.state, state) {
		t.Errorf("%x and %x, not %x and %x", m.constants, m.state, constants, state)
	}
}

// samples are strings of no block, of one and of several beside the padding.
func samples() []string {
	return []string{"", "abc", noise(144, 55), noise(145, 64), noise(146, 200)}
}

// wantSeen wants that no sample has the digest that a wrong model says.
func wantSeen(t *testing.T, m model, name string, i, bit int) {
	t.Helper()
	for _, data := range samples() {
		if m.sum(data) == sha.Sum(data) {
			t.Errorf("%s %d with a wrong bit %d: the same digest of %.20q", name, i, bit, data)
		}
	}
}

// P14.1: each bit of each constant and of each integer of the first state makes another digest of each string, so that a wrong one is seen.
func TestEachConstant(t *testing.T) {
	for _, data := range samples() {
		wantModel(t, data)
	}
	for bit := range 32 {
		for i := range 64 {
			m := chapterModel()
			m.constants[i] ^= 1 << bit
			wantSeen(t, m, "constant", i, bit)
		}
		for i := range 8 {
			m := chapterModel()
			m.state[i] ^= 1 << bit
			wantSeen(t, m, "integer", i, bit)
		}
	}
}

// P14.1: constants that are swapped with their neighbours.
func TestSwappedConstants(t *testing.T) {
	for i := range 63 {
		m := chapterModel()
		m.constants[i], m.constants[i+1] = m.constants[i+1], m.constants[i]
		wantSeen(t, m, "constants, swapped,", i, 0)
	}
	for i := range 7 {
		m := chapterModel()
		m.state[i], m.state[i+1] = m.state[i+1], m.state[i]
		wantSeen(t, m, "integers, swapped,", i, 0)
	}
}

// P14.1: each sum is modulo 4294967296, so that a sum that stops at the greatest integer makes another digest.
func TestModulo(t *testing.T) {
	for which := noSum + 1; which < sums; which++ {
		m := chapterModel()
		m.stops = which
		for _, data := range samples() {
			if m.sum(data) == sha.Sum(data) {
				t.Errorf("sum %d that stops: the same digest of %.20q", which, data)
			}
		}
	}
}
