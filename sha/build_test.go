package sha_test

import (
	"crypto/sha256"
	"fmt"
	"strconv"
	"strings"
	"testing"

	"vitrine/sha"
)

// The chapter's numbers.
const (
	chapterConstants = "428a2f98 71374491 b5c0fbcf e9b5dba5 3956c25b 59f111f1 923f82a4 ab1c5ed5 d807aa98 12835b01 243185be 550c7dc3 72be5d74 80deb1fe 9bdc06a7 c19bf174 e49b69c1 efbe4786 0fc19dc6 240ca1cc 2de92c6f 4a7484aa 5cb0a9dc 76f988da 983e5152 a831c66d b00327c8 bf597fc7 c6e00bf3 d5a79147 06ca6351 14292967 27b70a85 2e1b2138 4d2c6dfc 53380d13 650a7354 766a0abb 81c2c92e 92722c85 a2bfe8a1 a81a664b c24b8b70 c76c51a3 d192e819 d6990624 f40e3585 106aa070 19a4c116 1e376c08 2748774c 34b0bcb5 391c0cb3 4ed8aa4a 5b9cca4f 682e6ff3 748f82ee 78a5636f 84c87814 8cc70208 90befffa a4506ceb bef9a3f7 c67178f2"
	chapterState     = "6a09e667 bb67ae85 3c6ef372 a54ff53a 510e527f 9b05688c 1f83d9ab 5be0cd19"
)

const modulus = 4294967296

// The sums of the chapter's words.
const (
	noSum = iota
	sumW
	sumU
	sumV
	sumE // d + u
	sumA // u + v
	sumState
	sums
)

// model is Sum in the chapter's words, with whole numbers that know no 32 bits. It may have other numbers than the chapter's, and one of its sums may stop at the greatest integer.
type model struct {
	constants, state []int
	stops            int
}

func chapterModel() model {
	return model{constants: integers(chapterConstants), state: integers(chapterState)}
}

// integers are the numbers of a text.
func integers(text string) []int {
	var list []int
	for _, word := range strings.Fields(text) {
		n, err := strconv.ParseInt(word, 16, 64)
		if err != nil {
			panic(err)
		}
		list = append(list, int(n))
	}
	return list
}

func (m model) add(which int, numbers ...int) int {
	sum := 0
	for _, n := range numbers {
		sum += n
	}
	if which == m.stops && sum >= modulus {
		return modulus - 1
	}
	return sum % modulus
}

func (m model) sum(data string) string {
	state := append([]int(nil), m.state...)
	text := padded(data)
	for at := 0; at < len(text); at += 64 {
		for i, n := range m.block(state, text[at:at+64]) {
			state[i] = m.add(sumState, state[i], n)
		}
	}
	return bytesOf(state)
}

func (m model) block(state []int, block string) []int {
	var w []int
	for t := range 64 {
		if t < 16 {
			w = append(w, integerAt(block, 4*t))
			continue
		}
		s0 := turned(w[t-15], 7) ^ turned(w[t-15], 18) ^ w[t-15]/8
		s1 := turned(w[t-2], 17) ^ turned(w[t-2], 19) ^ w[t-2]/1024
		w = append(w, m.add(sumW, w[t-16], s0, w[t-7], s1))
	}
	a, b, c, d, e, f, g, h := state[0], state[1], state[2], state[3], state[4], state[5], state[6], state[7]
	for t := range 64 {
		not := modulus - 1 - e
		u := m.add(sumU, h, turned(e, 6)^turned(e, 11)^turned(e, 25), (e&f)^(not&g), m.constants[t], w[t])
		v := m.add(sumV, turned(a, 2)^turned(a, 13)^turned(a, 22), (a&b)^(a&c)^(b&c))
		h, g, f = g, f, e
		e = m.add(sumE, d, u)
		d, c, b = c, b, a
		a = m.add(sumA, u, v)
	}
	return []int{a, b, c, d, e, f, g, h}
}

// padded is the padded message.
func padded(data string) string {
	text := data + "\x80"
	for (len(text)+8)%64 != 0 {
		text += "\x00"
	}
	return text + bytesOf([]int{8 * len(data) / modulus, 8 * len(data) % modulus})
}

// turned is rotr.
func turned(x, n int) int {
	for range n {
		x = x/2 + x%2*(modulus/2)
	}
	return x
}

func integerAt(text string, at int) int {
	n := 0
	for i := range 4 {
		n = 256*n + int(text[at+i])
	}
	return n
}

func bytesOf(list []int) string {
	var b []byte
	for _, n := range list {
		b = append(b, byte(n/16777216), byte(n/65536), byte(n/256), byte(n))
	}
	return string(b)
}

// noise is n bytes without a short period, others for each seed.
func noise(seed, n int) string {
	b := make([]byte, n)
	x := uint32(seed)*2654435761 + 7
	for i := range b {
		x = x*1664525 + 1013904223
		b[i] = byte(x >> 24)
	}
	return string(b)
}

// words are lower-case hexadecimal digits of bytes.
func words(s string) string { return fmt.Sprintf("%x", []byte(s)) }

// wantSum wants a digest, which is told in hexadecimal.
func wantSum(t *testing.T, data, want string) {
	t.Helper()
	if got := sha.Sum(data); len(got) != 32 || words(got) != want {
		t.Errorf("Sum(%.40q, %d bytes) is %x, not %s", data, len(data), got, want)
	}
}

// wantLibrary wants the digest that the library returns.
func wantLibrary(t *testing.T, data string) {
	t.Helper()
	sum := sha256.Sum256([]byte(data))
	wantSum(t, data, words(string(sum[:])))
}

// wantModel wants the digest of the chapter's words, which is the library's too.
func wantModel(t *testing.T, data string) {
	t.Helper()
	wantSum(t, data, words(chapterModel().sum(data)))
	wantLibrary(t, data)
}

// wantHex wants the hexadecimal digits of bytes.
func wantHex(t *testing.T, s, want string) {
	t.Helper()
	if got := sha.Hex(s); got != want {
		t.Errorf("Hex(%.40q, %d bytes) is %.100q, not %.100q", s, len(s), got, want)
	}
}

// edges are the lengths at which the padding changes.
func edges() []int {
	return []int{0, 1, 2, 54, 55, 56, 57, 62, 63, 64, 65, 118, 119, 120, 121, 127, 128, 129, 183, 184, 191, 192, 193}
}
