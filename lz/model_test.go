package lz_test

import (
	"math/rand"
	"slices"
	"strings"
	"testing"

	"vitrine/api"
	"vitrine/lz"
)

// model is P4.1 in its own words: for each distance the number of bytes that are equal to those at this distance before.
func model(data string) []api.Token {
	var tokens []api.Token
	for at := 0; at < len(data); {
		var numbers []int
		for dist := 1; dist <= 512 && at-dist >= 0; dist++ {
			n := 0
			for n < 258 && at+n < len(data) && data[at+n] == data[at+n-dist] {
				n++
			}
			numbers = append(numbers, n)
		}
		if len(numbers) > 0 && slices.Max(numbers) >= 3 {
			most := slices.Max(numbers)
			tokens = append(tokens, match(most, 1+slices.Index(numbers, most)))
			at += most
		} else {
			tokens = append(tokens, literal(data[at]))
			at++
		}
	}
	return tokens
}

// P4.1, P4.3: all texts of few letters, short ones.
func TestAllShort(t *testing.T) {
	for _, letters := range []string{"ab", "abc"} {
		texts := []string{""}
		for range 20 / len(letters) {
			var longer []string
			for _, s := range texts {
				for _, l := range letters {
					longer = append(longer, s+string(l))
				}
			}
			for _, s := range longer {
				wantTokens(t, s, s, model(s)...)
			}
			texts = longer
		}
	}
}

// P4.1, P4.3: random texts of few or many letters, and ones that repeat parts of themselves.
func TestRandom(t *testing.T) {
	r := rand.New(rand.NewSource(4))
	for range 400 {
		var b strings.Builder
		letters := 1 + r.Intn(1<<r.Intn(9))
		for n := r.Intn(1500); b.Len() < n; {
			if b.Len() > 0 && r.Intn(3) == 0 {
				from := max(0, b.Len()-1-r.Intn(700))
				b.WriteString(b.String()[from:min(b.Len(), from+1+r.Intn(300))])
			} else {
				b.WriteByte(byte(r.Intn(letters)))
			}
		}
		wantTokens(t, "random", b.String(), model(b.String())...)
	}
}

// P4.2: random tokens against a model that goes byte by byte, with values that are no tokens among them.
func TestRandomExpand(t *testing.T) {
	r := rand.New(rand.NewSource(42))
	wrong := notTokens()
	for range 2000 {
		var tokens []api.Token
		for range r.Intn(60) {
			switch r.Intn(100) {
			case 0:
				tokens = append(tokens, wrong[r.Intn(len(wrong))])
			case 1:
				tokens = append(tokens, match(3+r.Intn(256), 1+r.Intn(32768)))
			default:
				if r.Intn(3) == 0 && len(tokens) > 0 {
					tokens = append(tokens, match(3+r.Intn(256), 1+r.Intn(len(tokens))))
				} else {
					tokens = append(tokens, literal(byte(r.Intn(256))))
				}
			}
		}
		if want, e := expandModel(tokens); e == api.OK {
			wantText(t, "random", want, tokens...)
		} else {
			wantError(t, "random", e, tokens...)
		}
	}
}

// expandModel is P4.2 in its own words.
func expandModel(tokens []api.Token) (string, api.Errno) {
	out := ""
	for _, token := range tokens {
		switch {
		case token.Len == 0 && token.Dist == 0 && 0 <= token.Byte && token.Byte <= 255:
			out += string([]byte{byte(token.Byte)})
		case !(3 <= token.Len && token.Len <= 258 && 1 <= token.Dist && token.Dist <= 32768 && token.Byte == 0):
			return "", api.ErrArg
		case token.Dist > len(out):
			return "", api.ErrFar
		default:
			for range token.Len {
				out += out[len(out)-token.Dist:][:1]
			}
		}
	}
	return out, api.OK
}

// P4.3: texts as long as a file may be, with hardly a match and with hardly anything else.
func TestLarge(t *testing.T) {
	r := rand.New(rand.NewSource(43))
	noise := make([]byte, 65536)
	r.Read(noise)
	for _, s := range []string{string(noise), strings.Repeat("\x00", 65536), strings.Repeat(string(noise[:512]), 64), strings.Repeat(string(noise[:513]), 64)} {
		tokens := lz.Tokens(s)
		wantText(t, "large", s, tokens...)
		if len(tokens) > len(s) {
			t.Errorf("%d tokens of %d bytes", len(tokens), len(s))
		}
	}
}

// R2: tokens that are handed in stay what they are, behind their end as well.
func TestArguments(t *testing.T) {
	tokens := list("ab", match(6, 2), "cd", match(3, 3))
	kept := slices.Clone(tokens)
	for n := range tokens {
		lz.Expand(tokens[:n]...)
		lz.Expand(append(slices.Clone(tokens[:n]), api.Token{Byte: -1})...)
	}
	if !slices.Equal(tokens, kept) {
		t.Errorf("tokens became %v", tokens)
	}
}

// R2, R3: what is done with a result does not reach another one; the same again gives the same.
func TestResults(t *testing.T) {
	s := "abcabcab"
	first := lz.Tokens(s)
	clear(first[:cap(first)])
	wantTokens(t, "again", s, list("abc", match(5, 3))...)
	tokens := list("abc", match(5, 3))
	text, _ := lz.Expand(tokens...)
	clear(tokens)
	if text != s {
		t.Errorf("the text became %q", text)
	}
	wantText(t, "again", s, list("abc", match(5, 3))...)
}
