package lz_test

import (
	"math"
	"strings"
	"testing"

	"vitrine/api"
)

// P4.2: literals and matches; a match reaches into what it produces itself.
func TestExpand(t *testing.T) {
	wantText(t, "nothing", "")
	wantText(t, "a run", "aaaa", list("a", match(3, 1))...)
	wantText(t, "pairs", "abababab", list("ab", match(6, 2))...)
	wantText(t, "no whole number of times", "abcabca", list("abc", match(4, 3))...)
	wantText(t, "all of it again", "abcabc", list("abc", match(3, 3))...)
	wantText(t, "from the beginning", "abcdeabc", list("abcde", match(3, 5))...)
	wantText(t, "from the middle", "abcdebcd", list("abcde", match(3, 4))...)
	wantText(t, "of a match", "abababaXbaXY", list("ab", match(5, 2), "X", match(3, 3), "Y")...)
	for b := range 256 {
		s := string([]byte{byte(b)})
		wantText(t, "a byte", s, literal(byte(b)))
		wantText(t, "a byte and again", strings.Repeat(s, 4), literal(byte(b)), match(3, 1))
	}
}

// P4.2: all lengths and the greatest distances of a match, which are greater than those that Tokens takes.
func TestExpandBounds(t *testing.T) {
	for n := 3; n <= 258; n++ {
		wantText(t, "a length", strings.Repeat("ab", 130)[:2+n], list("ab", match(n, 2))...)
	}
	far := distinct(2000)
	far += strings.Repeat("z", 32768-2000)
	for _, dist := range []int{1, 2, 511, 512, 513, 2000, 30768, 30769, 32767, 32768} {
		from := far[len(far)-dist:]
		if dist < 3 {
			from = "zzz"
		}
		wantText(t, "a distance", far+from[:3], list(far, match(3, dist))...)
	}
	wantText(t, "what is longer than the greatest distance", "q"+far+far[:3], list("q"+far, match(3, 32768))...)
}

// notTokens is what is neither a literal nor a match.
func notTokens() []api.Token {
	values := []api.Token{
		{Byte: 256}, {Byte: -1}, {Byte: math.MaxInt}, {Byte: math.MinInt},
		{Dist: 1}, {Dist: -1}, {Dist: 32768}, {Byte: 'a', Dist: 1},
		{Len: 3}, {Len: 258}, {Len: 3, Dist: -1}, {Len: 3, Dist: 32769}, {Len: 3, Dist: math.MaxInt}, {Len: 3, Dist: math.MinInt},
		{Len: 1}, {Len: -1}, {Len: 1, Byte: 'a'},
		{Len: 3, Dist: 1, Byte: 'a'}, {Len: 3, Dist: 1, Byte: 255}, {Len: 258, Dist: 512, Byte: -1}, {Len: 3, Dist: 1, Byte: 256},
	}
	for _, n := range []int{math.MinInt, -258, -3, -1, 1, 2, 259, 260, 65539, math.MaxInt} {
		values = append(values, match(n, 1))
	}
	return values
}

// P4.2, R1: ErrArg for a value that is not a token, with nothing beside it.
func TestExpandNoToken(t *testing.T) {
	for _, v := range notTokens() {
		wantError(t, "alone", api.ErrArg, v)
		wantError(t, "behind bytes", api.ErrArg, append(list("abc"), v)...)
		wantError(t, "ahead of a byte", api.ErrArg, v, literal('a'))
		wantError(t, "behind a match", api.ErrArg, append(list("abc", match(258, 1)), v)...)
		wantError(t, "behind much", api.ErrArg, append(list(strings.Repeat("x", 40000)), v)...)
	}
}

// P4.2, R1: ErrFar for a distance that goes beyond the beginning, by 1 byte or by more.
func TestExpandFar(t *testing.T) {
	wantError(t, "nothing ahead", api.ErrFar, match(258, 32768))
	for n := range 40 {
		s := distinct(n)
		wantError(t, "1 byte", api.ErrFar, list(s, match(3, n+1))...)
		wantError(t, "2 bytes", api.ErrFar, list(s, match(3, n+2))...)
		wantError(t, "the most", api.ErrFar, list(s, match(3, 32768))...)
		if n > 0 {
			wantText(t, "none", (s + s + s + s)[:n+3], list(s, match(3, n))...)
			// What a match produces counts as well.
			wantError(t, "behind a match", api.ErrFar, list(s, match(100, n), match(3, n+101))...)
			wantText(t, "behind a match", strings.Repeat(s, 103)[:n+100]+s[:1], list(s, match(100, n), s[:1])...)
		}
	}
	wantError(t, "1 byte", api.ErrFar, list(strings.Repeat("x", 32767), match(3, 32768))...)
}

// P4.2: of ErrArg and ErrFar the one of the earlier token.
func TestExpandFirst(t *testing.T) {
	for _, v := range notTokens() {
		wantError(t, "no token first", api.ErrArg, v, match(3, 1))
		wantError(t, "far first", api.ErrFar, match(3, 1), v)
		wantError(t, "no token first", api.ErrArg, append(list("ab"), v, match(3, 3))...)
		wantError(t, "far first", api.ErrFar, append(list("ab", match(3, 3)), v)...)
	}
	wantError(t, "far, and a distance of no token", api.ErrArg, match(3, 32769))
	wantError(t, "far, and a length of no token", api.ErrArg, match(2, 5))
}
