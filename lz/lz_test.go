package lz_test

import (
	"strings"
	"testing"

	"vitrine/api"
	"vitrine/lz"
)

func literal(b byte) api.Token { return api.Token{Byte: int(b)} }

func match(n, dist int) api.Token { return api.Token{Len: n, Dist: dist} }

// literals is each byte of a text as a token.
func literals(s string) []api.Token {
	var tokens []api.Token
	for i := range len(s) {
		tokens = append(tokens, literal(s[i]))
	}
	return tokens
}

// list is the tokens that texts, byte by byte, and matches stand for.
func list(parts ...any) []api.Token {
	var tokens []api.Token
	for _, p := range parts {
		switch p := p.(type) {
		case string:
			tokens = append(tokens, literals(p)...)
		case api.Token:
			tokens = append(tokens, p)
		}
	}
	return tokens
}

// distinct is so many bytes, 128 and more, of which no 3 in a row occur twice.
func distinct(n int) string {
	var b strings.Builder
	for b.Len() < n {
		pair := b.Len() / 2
		b.WriteByte(byte(128 + pair%64))
		b.WriteByte(byte(192 + pair/64))
	}
	return b.String()[:n]
}

// wantTokens asks for the tokens of data, and that they give the data again.
func wantTokens(t *testing.T, name, data string, want ...api.Token) {
	t.Helper()
	got := lz.Tokens(data)
	for i := range max(len(got), len(want)) {
		if i >= len(got) || i >= len(want) || got[i] != want[i] {
			t.Errorf("%s: %d tokens, want %d; they differ from %d on: %v, want %v", name, len(got), len(want), i, some(got, i), some(want, i))
			break
		}
	}
	wantText(t, name, data, got...)
	if len(got) > len(data) {
		t.Errorf("%s: %d tokens of %d bytes", name, len(got), len(data))
	}
}

// some is a few tokens from a place on.
func some(tokens []api.Token, i int) []api.Token {
	return tokens[min(i, len(tokens)):min(i+5, len(tokens))]
}

func wantText(t *testing.T, name, want string, tokens ...api.Token) {
	t.Helper()
	if got, e := lz.Expand(tokens...); got != want || e != api.OK {
		t.Errorf("%s: text %q and %v, want %q", name, got, e, want)
	}
}

func wantError(t *testing.T, name string, want api.Errno, tokens ...api.Token) {
	t.Helper()
	if got, e := lz.Expand(tokens...); got != "" || e != want {
		t.Errorf("%s: text %q and %v, want no text and %v", name, got, e, want)
	}
}

// P4.1, P4.2: the examples of the document.
func TestExamples(t *testing.T) {
	wantTokens(t, "abcabcab", "abcabcab", literal('a'), literal('b'), literal('c'), match(5, 3))
	wantTokens(t, "aaaa", "aaaa", literal('a'), match(3, 1))
	wantError(t, "a match alone", api.ErrFar, match(3, 1))
	wantError(t, "a length of 2", api.ErrArg, api.Token{Len: 2, Dist: 1})
}

// P4.1: what is too short to have a match, and all bytes as literals.
func TestLiterals(t *testing.T) {
	wantTokens(t, "nothing", "")
	for _, s := range []string{"a", "aa", "aaa", "ab", "aba", "abab", "aab", "abcab", "ababcbc"} {
		wantTokens(t, s, s, literals(s)...)
	}
	var all []byte
	for b := range 256 {
		wantTokens(t, "one byte", string([]byte{byte(b)}), literal(byte(b)))
		all = append(all, byte(b))
	}
	wantTokens(t, "all bytes", string(all), literals(string(all))...)
	wantTokens(t, "all bytes twice", string(all)+string(all), list(string(all), match(256, 256))...)
}

// P4.1: a match has 3 bytes or more, at the end of data too.
func TestLeast(t *testing.T) {
	wantTokens(t, "2 again", "abxab", literals("abxab")...)
	wantTokens(t, "2 again and another", "abcxabd", literals("abcxabd")...)
	wantTokens(t, "3 again", "abcxabc", list("abcx", match(3, 4))...)
	wantTokens(t, "3 again and another", "abcxabcd", list("abcx", match(3, 4), "d")...)
	wantTokens(t, "4 again", "abcdxabcd", list("abcdx", match(4, 5))...)
}

// P4.1: a match has 258 bytes at most, and what follows it is looked at anew.
func TestMost(t *testing.T) {
	for _, n := range []int{3, 4, 257, 258} {
		wantTokens(t, "a run", strings.Repeat("a", 1+n), literal('a'), match(n, 1))
	}
	wantTokens(t, "a run", strings.Repeat("a", 1+259), literal('a'), match(258, 1), literal('a'))
	wantTokens(t, "a run", strings.Repeat("a", 1+260), literal('a'), match(258, 1), literal('a'), literal('a'))
	wantTokens(t, "a run", strings.Repeat("a", 1+261), literal('a'), match(258, 1), match(3, 1))
	wantTokens(t, "a run", strings.Repeat("a", 1+2*258), literal('a'), match(258, 1), match(258, 1))
	for _, n := range []int{257, 258} {
		s := distinct(n)
		wantTokens(t, "far again", s+"x"+s, list(s+"x", match(n, n+1))...)
		wantTokens(t, "far again and another", s+"x"+s+"y", list(s+"x", match(n, n+1), "y")...)
	}
	s := distinct(262)
	wantTokens(t, "far again", s+s, list(s, match(258, 262), match(4, 262))...)
}

// P4.1: distances of 512 at most, and none beyond the beginning.
func TestDistance(t *testing.T) {
	for n := 3; n <= 600; n++ {
		s := "abc" + distinct(n-3)
		want := list(s, match(3, n))
		if n > 512 {
			want = list(s, "abc")
		}
		wantTokens(t, "at the beginning", s+"abc", want...)
		wantTokens(t, "behind the beginning", "d"+s+"abc", append(list("d"), want...)...)
	}
	s := distinct(512)
	wantTokens(t, "the whole window", s+s, list(s, match(258, 512), match(254, 512))...)
	wantTokens(t, "more than the window", "x"+s+"x"+s, literals("x"+s+"x"+s)...)
}

// P4.1: of several matches the longest one, and of these the nearest one.
func TestWhich(t *testing.T) {
	wantTokens(t, "two of the same length", "abc1abc2abc", list("abc1", match(3, 4), "2", match(3, 4))...)
	wantTokens(t, "the farther one is longer", "abcd1abc2abcd", list("abcd1", match(3, 5), "2", match(4, 9))...)
	wantTokens(t, "the nearer one is longer", "abc1abcd2abcd", list("abc1", match(3, 4), "d2", match(4, 5))...)
	wantTokens(t, "the one between is longer", "abc1abcd2abc3abcd", list("abc1", match(3, 4), "d2", match(3, 5), "3", match(4, 9))...)
	wantTokens(t, "all distances have the most", "aaaaaaaaaa", list("a", match(9, 1))...)
	wantTokens(t, "every second one", "abababababab", list("ab", match(10, 2))...)
	wantTokens(t, "into itself", "xabcabcabcabcx", list("xabc", match(9, 3), "x")...)
}

// P4.1: what a position has is taken, though the next position has more.
func TestGreedy(t *testing.T) {
	wantTokens(t, "a longer one behind", "bcdef1abc2abcdef", list("bcdef1abc2", match(3, 4), match(3, 11))...)
	wantTokens(t, "a literal ahead", "bcdef1ab2abcdef", list("bcdef1ab2a", match(5, 10))...)
}
