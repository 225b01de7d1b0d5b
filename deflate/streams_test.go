package deflate_test

import (
	"slices"
	"strings"
	"testing"

	"vitrine/api"
	"vitrine/deflate"
	"vitrine/lz"
)

// noise is n bytes without a short period.
func noise(n int) string {
	b := make([]byte, n)
	x := uint32(1)
	for i := range b {
		x = x*1664525 + 1013904223
		b[i] = byte(x >> 24)
	}
	return string(b)
}

// distinct is so many bytes, 128 and more, of which no 3 in a row occur twice.
func distinct(n int) string {
	var b strings.Builder
	for b.Len() < n {
		pair := b.Len() / 2
		b.WriteByte(byte(128 + pair%64))
		b.WriteByte(byte(192 + pair/64))
	}
	return b.String()[:n]
}

// spread is n bytes from 144 on, of which the fixed code words have 9 bits, each so much greater than the one before it.
func spread(n, step int) string {
	var b []byte
	for i := range n {
		b = append(b, byte(144+i*step))
	}
	return string(b)
}

// P5.2, P5.4: the examples of the document.
func TestExamples(t *testing.T) {
	wantStream(t, "Stored", deflate.Stored("ab"), "\x01\x02\x00\xfd\xffab", "ab")
	wantStream(t, "Fixed", deflate.Fixed("a"), "\x4b\x04\x00", "a")
	wantStream(t, "Deflate", deflate.Deflate(""), "\x03\x00", "")
}

// P5.2, P5.3, P5.4, P5.5: empty data. The bits of the dynamic block are worked out by hand.
func TestEmpty(t *testing.T) {
	wantStream(t, "Stored", deflate.Stored(""), "\x01\x00\x00\xff\xff", "")
	wantStream(t, "Fixed", deflate.Fixed(""), "\x03\x00", "")
	dynamic := packed("1", "01", "00000", "00000", "0111",
		"000", "000", "100", "010", strings.Repeat("000", 13), "010", // 18 has 1 bit, 0 and 1 have 2 bits
		"0"+"1111111", "0"+"1101011", "11", "10", // 138 and 118 zeros, 1 for the symbol 256, 0 for the distance
		"0")
	wantStream(t, "Dynamic", deflate.Dynamic(""), dynamic, "")
	if which := wantAll(t, ""); which != 1 {
		t.Errorf("the shortest one is %d", which)
	}
}

// P5.2, P5.5: stored blocks are as few as possible, and all but the last one are full.
func TestStored(t *testing.T) {
	s := noise(3*65535 + 1)
	a, b, c := s[:65535], s[65535:2*65535], s[2*65535:3*65535]
	for _, n := range []int{1, 2, 255, 256, 257, 4096, 65534, 65535} {
		wantStream(t, "one block", deflate.Stored(s[:n]), storedBlock(1, s[:n]), s[:n])
	}
	for _, n := range []int{65536, 65537, 2*65535 - 1, 2 * 65535} {
		wantStream(t, "two blocks", deflate.Stored(s[:n]), storedBlock(0, a)+storedBlock(1, s[65535:n]), s[:n])
	}
	for _, n := range []int{2*65535 + 1, 3 * 65535} {
		wantStream(t, "three blocks", deflate.Stored(s[:n]), storedBlock(0, a)+storedBlock(0, b)+storedBlock(1, s[2*65535:n]), s[:n])
	}
	wantStream(t, "four blocks", deflate.Stored(s), storedBlock(0, a)+storedBlock(0, b)+storedBlock(0, c)+storedBlock(1, s[3*65535:]), s)
}

// P5.2: fixed blocks whose bits are worked out by hand.
func TestFixed(t *testing.T) {
	a, end := "10010001", "0000000"
	for _, c := range []struct {
		data  string
		parts []string
	}{
		{"\x00", []string{"00110000"}},
		{"\x8f", []string{"10111111"}},
		{"\x90", []string{"110010000"}},
		{"\xff", []string{"111111111"}},
		{"aaa", []string{a, a, a}},
		{"aaaa", []string{a, "0000001", "00000"}},                                          // length 3, distance 1
		{"ababa", []string{a, "10010010", "0000001", "00001"}},                             // length 3, distance 2
		{strings.Repeat("a", 11), []string{a, "0001000", "00000"}},                         // length 10
		{strings.Repeat("a", 12), []string{a, "0001001", "0", "00000"}},                    // length 11
		{strings.Repeat("a", 13), []string{a, "0001001", "1", "00000"}},                    // length 12
		{strings.Repeat("a", 1+114), []string{a, "0010111", "1111", "00000"}},              // length 114, the last one of 7 bits
		{strings.Repeat("a", 1+115), []string{a, "11000000", "0000", "00000"}},             // length 115
		{strings.Repeat("a", 1+257), []string{a, "11000100", "01111", "00000"}},            // length 257
		{strings.Repeat("a", 1+258), []string{a, "11000101", "00000"}},                     // length 258
		{strings.Repeat("a", 1+259), []string{a, "11000101", "00000", a}},                  // and a literal
		{strings.Repeat("a", 1+261), []string{a, "11000101", "00000", "0000001", "00000"}}, // and a length of 3
	} {
		want := packed("1", "10", strings.Join(c.parts, ""), end)
		wantStream(t, "Fixed", deflate.Fixed(c.data), want, c.data)
		wantAll(t, c.data)
	}
}

// P5.2, P5.3: one literal of each byte, and all of them.
func TestLiterals(t *testing.T) {
	var all []byte
	for b := range 256 {
		all = append(all, byte(b))
		wantAll(t, string([]byte{byte(b)}))
		wantAll(t, string([]byte{byte(b), byte(b)}))
	}
	wantAll(t, string(all))
}

// P5.3: dynamic blocks whose bits are worked out by hand.
func TestDynamic(t *testing.T) {
	// 97 zeros, 1 for a, 158 zeros, 1 for the symbol 256, and 0 for the distance. In the small code 18 has 1 bit, 0 and 1 have 2 bits.
	one := packed("1", "01", "00000", "00000", "0111",
		"000", "000", "100", "010", strings.Repeat("000", 13), "010",
		"0"+"0110101", "11", "0"+"1111111", "0"+"1001000", "11", "10",
		"0", "1")
	wantStream(t, "Dynamic", deflate.Dynamic("a"), one, "a")
	// a, 256 and 257, once each, have 2, 2 and 1 bits; the distance symbol 0 has 1. In the small code 18 has 1 bit, 1 and 2 have 2 bits.
	match := packed("1", "01", "10000", "00000", "0111",
		"000", "000", "100", "000", strings.Repeat("000", 11), "010", "000", "010",
		"0"+"0110101", "11", "0"+"1111111", "0"+"1001000", "11", "10", "10",
		"10", "0", "0", "11")
	wantStream(t, "Dynamic", deflate.Dynamic("aaaa"), match, "aaaa")
}

// P5.2, P5.3, P5.5: data without matches, of few bytes and of many.
func TestNoMatches(t *testing.T) {
	s := distinct(8192)
	for _, n := range []int{1, 2, 3, 4, 100, 512, 513, 600, 8192} {
		wantAll(t, s[:n])
		if tokens := lz.Tokens(s[:n]); len(tokens) != n {
			t.Errorf("%d tokens of %d bytes", len(tokens), n)
		}
	}
}

// hasMatch tells whether data has a match of this length and distance.
func hasMatch(data string, n, dist int) bool {
	return slices.Contains(lz.Tokens(data), api.Token{Len: n, Dist: dist})
}

// P5.2, P5.3, P5.5: matches of all lengths, alone and at the end of others.
func TestLengths(t *testing.T) {
	s := distinct(300)
	for n := 3; n <= 258; n++ {
		run, again := strings.Repeat("a", 1+n), s[:n]+"x"+s[:n]+"y"
		if !hasMatch(run, n, 1) || !hasMatch(again, n, n+1) {
			t.Fatalf("no match of %d bytes", n)
		}
		wantAll(t, run)
		wantAll(t, again)
	}
	wantAll(t, s+s)
	wantAll(t, strings.Repeat("a", 1+258+257+258+3+258))
}

// P5.2, P5.3, P5.5: matches of all distances, and none that is farther.
func TestDistances(t *testing.T) {
	for n := 3; n <= 513; n++ {
		data := "abc" + distinct(n-3) + "abc"
		if hasMatch(data, 3, n) != (n <= 512) {
			t.Fatalf("a match of the distance %d", n)
		}
		wantAll(t, data)
	}
	wantAll(t, "aaaa")
	wantAll(t, "ababa")
}

// P5.4, P5.5: data of 65535 and 65536 bytes, and of more; noise is stored, in as few blocks as possible.
func TestLarge(t *testing.T) {
	noisy := noise(2*65535 + 1)
	even := strings.Repeat("vitrine, an archive of PNGs on replicas; ", 2000)
	for _, n := range []int{65534, 65535, 65536} {
		if which := wantAll(t, noisy[:n]); which != 0 {
			t.Errorf("%d bytes of noise: the shortest one is %d", n, which)
		}
		if got, want := len(deflate.Deflate(noisy[:n])), n+5*((n+65534)/65535); got != want {
			t.Errorf("%d bytes of noise became %d, not %d", n, got, want)
		}
		if which := wantAll(t, even[:n]); which != 2 {
			t.Errorf("%d bytes of text: the shortest one is %d", n, which)
		}
		wantAll(t, strings.Repeat("\x00", n))
	}
	for _, n := range []int{2 * 65535, 2*65535 + 1} {
		wantStream(t, "Deflate", deflate.Deflate(noisy[:n]), storedModel(noisy[:n]), noisy[:n])
	}
}

// P5.4: each of the three is the shortest one of something.
func TestShortest(t *testing.T) {
	for which, list := range [][]string{
		{noise(1000), spread(31, 2), spread(40, 2)},
		{"", "a", "aaaaaaaaaa", "hello, hello, hello", strings.Repeat("a", 259), spread(1, 2), spread(22, 2)},
		{distinct(24), distinct(600), strings.Repeat("a", 100000), noise(300) + strings.Repeat("a", 3000) + noise(300)},
	} {
		for _, data := range list {
			if got := wantAll(t, data); got != which {
				t.Errorf("%.60q: the shortest one is %d, not %d", data, got, which)
			}
		}
	}
}

// P5.4: of streams of equal size the first one in the order stored, fixed, dynamic.
func TestEqualSizes(t *testing.T) {
	const (
		storedIs = 1 << iota
		fixedIs
		dynamicIs
	)
	for _, c := range []struct {
		data string
		is   int // which ones are the shortest
	}{
		{"YZZYZZZYYZZYYZYZZYYYYYYZZYZYZYZYYYYYYZYZYYZYZYZYYZZYYZZYZYZYZZYYZZZYZYZZZ", fixedIs | dynamicIs},
		{"\x9c\x9b\x97\x9a\x96\x99\x9a\x9c\x9c\x9b\x9b\x9c\x98\x98\x9b\x97\x98", fixedIs | dynamicIs},
		{spread(23, 2), storedIs | fixedIs},
		{spread(30, 2), storedIs | fixedIs},
		{"\xab\xb1\xaf\xb3\xb7\xb4\x97\xbb\xb3\xa6\xa2\xad\xae\xae\xb8\xac\xb7\xa5\x98\x9b\xac\xb2\x97\xa8\x97\xa9\x99\xb0\xab\xbc\xab\x9a\xb2\x9b\xb8\xb3", storedIs | dynamicIs},
		{"\xca\xea\xce\xc6\xe9\xec\xcc\xcf\xd7\xd6\xd0\xea\xd3\xdf\xcd\xd4\xe0\xd1\xca\xcb\xc2\xd0\xcf\xdf\xd5\xee\xd7\xe7\xc2\xe8\xea\xd6\xc6\xd0\xed\xcb\xca\xe1", storedIs | dynamicIs},
		{spread(23, 1), storedIs | fixedIs | dynamicIs},
		{"\xf3\xe5\xe3\xf1\xe2\xf7\xf7\xe3\xe3\xf3\xf5\xe3\xe2\xde\xeb\xe7\xea\xe0\xe1\xe7\xf5\xe2\xea", storedIs | fixedIs | dynamicIs},
	} {
		streams := []string{deflate.Stored(c.data), deflate.Fixed(c.data), deflate.Dynamic(c.data)}
		least := min(len(streams[0]), len(streams[1]), len(streams[2]))
		is, first := 0, ""
		for i := 2; i >= 0; i-- {
			if len(streams[i]) == least {
				is |= 1 << i
				first = streams[i]
			}
		}
		if is != c.is {
			t.Errorf("%q: sizes %d, %d, %d", c.data, len(streams[0]), len(streams[1]), len(streams[2]))
		}
		wantStream(t, "Deflate", deflate.Deflate(c.data), first, c.data)
		wantAll(t, c.data)
	}
}

// R3: a call does not depend on those before it.
func TestCallsAreApart(t *testing.T) {
	for range 2 {
		for _, data := range []string{"", "a", "aaaaaaaaaa", noise(100), strings.Repeat("abc", 100)} {
			wantAll(t, data)
		}
	}
}
