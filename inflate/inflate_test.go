package inflate_test

import (
	"math"
	"slices"
	"strconv"
	"strings"
	"testing"

	"vitrine/api"
	"vitrine/bits"
)

// P3.1: the examples of the document.
func TestExamples(t *testing.T) {
	check(t, "stored", "\x01\x02\x00\xfd\xffab", big, "ab", 7, api.OK)
	check(t, "fixed, empty", "\x03\x00", big, "", 2, api.OK)
	check(t, "fixed", "\x4b\x04\x00", big, "a", 3, api.OK)
	check(t, "kind 3", "\x07", big, "", 0, api.ErrBlock)
	check(t, "stored, of two numbers", "\x01\x02\x00\xfd\xfe", big, "", 0, api.ErrStored)
}

// P3.1: streams that are too short to have a block's kind.
func TestNoHead(t *testing.T) {
	check(t, "nothing", "", big, "", 0, api.ErrEnd)
	check(t, "nothing", "", -1, "", 0, api.ErrEnd)
	check(t, "a block that isn't the last one", "\x02\x00", big, "", 0, api.ErrEnd)
	// 10 bits a block: 5 and 8 of them leave 6 and no bits of the last byte, 3 and 7 leave 2.
	for n := range 10 {
		parts := make([]part, n)
		for i := range parts {
			parts[i] = fixed(0, end)
		}
		wantError(t, strconv.Itoa(n)+" blocks and no last one", api.ErrEnd, parts...)
		wantText(t, strconv.Itoa(n)+" blocks and a last one", "", append(parts, fixed(1, end))...)
	}
}

// P3.1: kind 3 ahead of all that would follow, in a block that is the last one or not, and behind other blocks.
func TestKind3(t *testing.T) {
	check(t, "not the last block", "\x06", big, "", 0, api.ErrBlock)
	check(t, "no room at all", "\x06", math.MinInt, "", 0, api.ErrBlock)
	wantError(t, "behind a stored block", api.ErrBlock, stored(0, "ab"), head(1, 3))
	wantError(t, "behind a fixed block", api.ErrBlock, fixed(0, lit('a'), end), head(0, 3))
	check(t, "behind the last block", stream(stored(1, "a"), head(1, 3)), big, "a", 6, api.OK)
}

// P3.1: stored blocks of no bytes, of 255, 256 and 65535, alone and behind each other.
func TestStored(t *testing.T) {
	for _, n := range []int{0, 1, 2, 255, 256, 257, 4096, 65534, 65535} {
		s := strings.Repeat("ab\x00\xff", n)[:n]
		wantText(t, strconv.Itoa(n)+" bytes", s, stored(1, s))
		wantText(t, strconv.Itoa(n)+" bytes twice", s+s, stored(0, s), stored(1, s))
	}
}

// P3.1: a stored block begins at the next whole byte; what is ahead of it does not matter.
func TestStoredAlignment(t *testing.T) {
	for ones := range 6 {
		wantText(t, "first", "xy", head(1, 0), number(-1, ones), func(w *bits.Writer) { w.Bytes("\x02\x00\xfd\xffxy") })
	}
	// Literals of 8 and of 9 bits move the block through all places of a byte.
	for n := range 17 {
		s := strings.Repeat("\xf0", n)
		wantText(t, "behind a fixed block", s+"xy", fixed(0, append(text(s), end)...), stored(1, "xy"))
		wantText(t, "ahead of a fixed block", s+"xy"+s, fixed(0, append(text(s), end)...), stored(0, "xy"), fixed(1, append(text(s), end)...))
	}
}

// P3.1: each bit of the second number is held against the first one, ahead of what is missing or too much.
func TestStoredNumbers(t *testing.T) {
	for _, n := range []int{0, 2, 255, 256, 65535} {
		for bit := range 16 {
			other := (0xFFFF - n) ^ 1<<bit
			data := string([]byte{1, byte(n), byte(n >> 8), byte(other), byte(other >> 8)})
			check(t, "no bytes", data, big, "", 0, api.ErrStored)
			check(t, "no room", data+strings.Repeat("a", n), -1, "", 0, api.ErrStored)
			check(t, "no number", data[:4], big, "", 0, api.ErrEnd)
		}
	}
	check(t, "the same number twice", "\x01\x02\x00\x02\x00ab", big, "", 0, api.ErrStored)
	check(t, "big-endian", "\x01\x00\x02\xff\xfdab", big, "", 0, api.ErrEnd)
}

// P3.1: a stored block is held against the room when all its bytes are present, and as a whole.
func TestStoredRoom(t *testing.T) {
	data := stream(stored(0, "abc"), stored(1, "de"))
	for most := -1; most < 5; most++ {
		check(t, "two blocks", data, most, "", 0, api.ErrBig)
	}
	check(t, "two blocks", data, 5, "abcde", len(data), api.OK)
	check(t, "missing bytes", data[:7], 0, "", 0, api.ErrEnd)
	check(t, "missing bytes of the second block", data[:14], 3, "", 0, api.ErrEnd)
	check(t, "a kind behind it", stream(stored(0, "abc"), head(1, 3)), 2, "", 0, api.ErrBig)
	empty := stream(stored(1, ""))
	check(t, "empty", empty, 0, "", 5, api.OK)
	check(t, "empty, less than nothing", empty, -1, "", 0, api.ErrBig)
	check(t, "empty, less than nothing", empty, math.MinInt, "", 0, api.ErrBig)
	check(t, "the greatest room", data, math.MaxInt, "abcde", len(data), api.OK)
}

// P3.1: every byte as a literal of a fixed block.
func TestLiterals(t *testing.T) {
	b := make([]byte, 256)
	for i := range b {
		b[i] = byte(i)
		wantText(t, "one literal", string(b[i:i+1]), fixed(1, lit(i), end))
	}
	wantText(t, "all literals", string(b), fixed(1, append(text(string(b)), end)...))
}

// P3.1: each literal is held against the room.
func TestLiteralRoom(t *testing.T) {
	data := stream(fixed(1, append(text("abc"), end)...))
	for _, most := range []int{math.MinInt, -1, 0, 1, 2} {
		check(t, "three literals", data, most, "", 0, api.ErrBig)
	}
	check(t, "three literals", data, 3, "abc", len(data), api.OK)
	check(t, "the greatest room", data, math.MaxInt, "abc", len(data), api.OK)
	// The room is told of at the literal that lacks it, and not ahead of it.
	wrong := stream(fixed(1, lit('a'), lit('b'), lit(286)))
	check(t, "a wrong symbol behind two literals", wrong, 1, "", 0, api.ErrBig)
	check(t, "a wrong symbol behind two literals", wrong, 2, "", 0, api.ErrCode)
	check(t, "an end behind two literals", stream(fixed(0, lit('a'), lit('b'), end)), 1, "", 0, api.ErrBig)
	// No byte, match or stored block is there to be held against it.
	check(t, "no literal, less than nothing", "\x03\x00", -1, "", 2, api.OK)
	check(t, "no literal, less than nothing", "\x03\x00", math.MinInt, "", 2, api.OK)
}

// lenSymbol is the symbol, extra bits and their number of a length, as the chapter tells the symbols.
func lenSymbol(length int) (int, int, int) {
	if length == 258 {
		return 285, 0, 0
	}
	least := 3
	for symbol := 257; ; symbol++ {
		n := max(0, (symbol-261)/4)
		if length < least+1<<n {
			return symbol, length - least, n
		}
		least += 1 << n
	}
}

// distSymbol is likewise that of a distance.
func distSymbol(distance int) (int, int, int) {
	least := 1
	for symbol := 0; ; symbol++ {
		n := max(0, (symbol-2)/2)
		if distance < least+1<<n {
			return symbol, distance - least, n
		}
		least += 1 << n
	}
}

// match is the symbols of a match.
func match(length, distance int) []coded {
	a, v, n := lenSymbol(length)
	b, w, m := distSymbol(distance)
	return []coded{litMore(a, v, n), distMore(b, w, m)}
}

// repeated is output and so many bytes more, each as far behind the one that it repeats as the distance.
func repeated(s string, length, distance int) string {
	b := []byte(s)
	for range length {
		b = append(b, b[len(b)-distance])
	}
	return string(b)
}

// noise is n bytes without a short period.
func noise(n int) string {
	b := make([]byte, n)
	x := uint32(1)
	for i := range b {
		x = x*1664525 + 1013904223
		b[i] = byte(x >> 24)
	}
	return string(b)
}

// P3.1: the lengths that the chapter names, and every length with the symbols that it has.
func TestLengths(t *testing.T) {
	for _, c := range []struct{ symbol, v, n, length int }{
		{257, 0, 0, 3}, {258, 0, 0, 4}, {263, 0, 0, 9}, {264, 0, 0, 10},
		{265, 0, 1, 11}, {265, 1, 1, 12}, {266, 0, 1, 13}, {268, 1, 1, 18},
		{269, 0, 2, 19}, {269, 3, 2, 22}, {272, 3, 2, 34}, {273, 0, 3, 35}, {276, 7, 3, 66},
		{277, 0, 4, 67}, {280, 0, 4, 115}, {280, 15, 4, 130}, {281, 0, 5, 131}, {284, 0, 5, 227},
		{284, 30, 5, 257}, {284, 31, 5, 258}, {285, 0, 0, 258},
	} {
		wantText(t, "length symbol "+strconv.Itoa(c.symbol), strings.Repeat("x", c.length+1),
			fixed(1, lit('x'), litMore(c.symbol, c.v, c.n), dist(0), end))
	}
	for length := 3; length <= 258; length++ {
		wantText(t, "length "+strconv.Itoa(length), repeated("abc", length, 3), fixed(1, slices.Concat(text("abc"), match(length, 3), []coded{end})...))
	}
}

// P3.1: the distances that the chapter names, up to the greatest one.
func TestDistances(t *testing.T) {
	s := noise(32768)
	for _, c := range []struct{ symbol, v, n, distance int }{
		{0, 0, 0, 1}, {1, 0, 0, 2}, {2, 0, 0, 3}, {3, 0, 0, 4},
		{4, 0, 1, 5}, {4, 1, 1, 6}, {5, 0, 1, 7}, {5, 1, 1, 8}, {6, 0, 2, 9}, {6, 3, 2, 12}, {7, 3, 2, 16},
		{8, 0, 3, 17}, {9, 7, 3, 32}, {10, 0, 4, 33}, {12, 0, 5, 65}, {14, 0, 6, 129}, {16, 0, 7, 257},
		{18, 0, 8, 513}, {20, 0, 9, 1025}, {22, 0, 10, 2049}, {24, 0, 11, 4097}, {26, 0, 12, 8193},
		{28, 0, 13, 16385}, {28, 8191, 13, 24576}, {29, 0, 13, 24577}, {29, 8191, 13, 32768},
	} {
		data := stream(stored(0, s), fixed(1, lit(285), distMore(c.symbol, c.v, c.n), end))
		check(t, "distance symbol "+strconv.Itoa(c.symbol), data, big, repeated(s, 258, c.distance), len(data), api.OK)
	}
	for distance := 1; distance <= 600; distance++ {
		data := stream(stored(0, s), fixed(1, append(match(10, distance), end)...))
		check(t, "distance "+strconv.Itoa(distance), data, big, repeated(s, 10, distance), len(data), api.OK)
	}
}

// P3.1: matches that repeat what they produce, what other blocks produced, and what other matches did.
func TestMatches(t *testing.T) {
	wantText(t, "itself", "aaaa", fixed(1, lit('a'), lit(257), dist(0), end))
	wantText(t, "a part of itself", "ababababab", fixed(1, lit('a'), lit('b'), lit(262), dist(1), end))
	wantText(t, "a stored block", "abcabcdd", stored(0, "abc"), fixed(0, lit(257), dist(2), end), stored(1, "dd"))
	wantText(t, "another fixed block", "abcdbcd", fixed(0, append(text("abcd"), end)...), fixed(1, lit(257), dist(2), end))
	wantText(t, "matches", "abababcbabcb", fixed(1, slices.Concat(text("ab"), match(4, 2), text("c"), match(5, 4), []coded{end})...))
	wantText(t, "the first byte", "abcdefabc", fixed(1, slices.Concat(text("abcdef"), match(3, 6), []coded{end})...))
}

// P3.1: symbols that mean nothing, ahead of anything behind them.
func TestSymbolsWithoutMeaning(t *testing.T) {
	for _, symbol := range []int{286, 287} {
		wantError(t, "length symbol "+strconv.Itoa(symbol), api.ErrCode, fixed(1, lit('a'), lit(symbol)))
		wantError(t, "first length symbol "+strconv.Itoa(symbol), api.ErrCode, fixed(0, lit(symbol), dist(0), end))
		check(t, "no room", stream(fixed(1, lit(symbol))), -1, "", 0, api.ErrCode)
	}
	for _, symbol := range []int{30, 31} {
		wantError(t, "distance symbol "+strconv.Itoa(symbol), api.ErrCode, fixed(1, lit('a'), lit(257), dist(symbol)))
		wantError(t, "first distance symbol "+strconv.Itoa(symbol), api.ErrCode, fixed(1, lit(257), dist(symbol)))
		check(t, "no room", stream(fixed(1, lit(257), dist(symbol))), -1, "", 0, api.ErrCode)
	}
	wantError(t, "distance symbol 29", api.ErrFar, fixed(1, lit('a'), lit(257), distMore(29, 0, 13)))
}

// P3.1: a distance that reaches the first byte, and one that is greater by 1, whatever blocks the bytes are from.
func TestFar(t *testing.T) {
	wantError(t, "no byte", api.ErrFar, fixed(1, lit(257), dist(0)))
	wantError(t, "no byte, behind empty blocks", api.ErrFar, stored(0, ""), fixed(0, end), fixed(1, lit(257), dist(0)))
	for _, n := range []int{1, 2, 3, 4, 5, 6, 8, 9, 100, 512, 513, 1024, 32767} {
		s := noise(n)
		data := stream(stored(0, s), fixed(1, append(match(3, n), end)...))
		check(t, "as far as the first byte", data, n+3, repeated(s, 3, n), len(data), api.OK)
		wantError(t, "farther by 1", api.ErrFar, stored(0, s), fixed(1, append(match(3, n+1), end)...))
	}
	wantError(t, "farther than matches reach", api.ErrFar, fixed(1, slices.Concat(text("a"), match(3, 1), match(3, 5))...))
}

// P3.1: a match is held against the room as a whole, and behind its distance.
func TestMatchRoom(t *testing.T) {
	data := stream(fixed(1, slices.Concat(text("ab"), match(5, 2), []coded{end})...))
	for most := 2; most < 7; most++ {
		check(t, "a match", data, most, "", 0, api.ErrBig)
	}
	check(t, "a match", data, 7, "abababa", len(data), api.OK)
	far := stream(fixed(1, slices.Concat(text("ab"), match(258, 3))...))
	check(t, "too far and too long", far, 2, "", 0, api.ErrFar)
	check(t, "too far, no room for literals", far, 1, "", 0, api.ErrBig)
	code := stream(fixed(1, lit('a'), lit(285), dist(30)))
	check(t, "no distance and too long", code, 1, "", 0, api.ErrCode)
	check(t, "room is less than nothing", stream(fixed(1, lit(257), dist(0))), -1, "", 0, api.ErrFar)
}

// P3.1: bits that are missing within a match, ahead of what else would be wrong.
func TestMissingExtraBits(t *testing.T) {
	// The literals move the end of a byte to each place within the match.
	for n := range 8 {
		s := strings.Repeat("\xf0", n)
		for _, symbols := range [][]coded{match(258-1, 1), match(200, 24577), match(12, 32768), {lit(285), distMore(28, 0, 13)}} {
			data := stream(fixed(1, append(text(s), symbols...)...))
			used := 3 + 9*n
			for cut := range len(data) {
				if cut < (used+7)/8 {
					continue
				}
				check(t, "a match cut off", data[:cut], n, "", 0, api.ErrEnd)
			}
		}
	}
}

// P3.1: an error ends all, though the block isn't the last one and a good one follows.
func TestErrorAheadOfGoodBlock(t *testing.T) {
	good := all(fixed(1, end), number(0, 24))
	only := litLens(257, map[int]int{'a': 1})
	wantError(t, "a symbol that means nothing", api.ErrCode, fixed(0, lit('a'), lit(286)), good)
	wantError(t, "a distance that means nothing", api.ErrCode, fixed(0, lit('a'), lit(257), dist(30)), good)
	wantError(t, "too far", api.ErrFar, fixed(0, lit('a'), lit(257), dist(1)), good)
	wantError(t, "no code word", api.ErrCode, dynamic(0, only, []int{0}, lit('a')), number(1, 1), good)
	wantError(t, "no code words at all", api.ErrCode, dynamic(0, some(257, 0), []int{0}), good)
	wantError(t, "wrong lengths", api.ErrLess, dynamic(0, some(257, 0), []int{2}), good)
	wantError(t, "a wrong small code", api.ErrLess, head(0, 2), counts(257, 1, 19), smallLens(litLens(19, map[int]int{0: 2}), 19), good)
	wantError(t, "kind 3", api.ErrBlock, head(0, 3), good)
	wantError(t, "a stored block of two numbers", api.ErrStored, func(w *bits.Writer) { w.Bytes("\x00\x00\x00\x00\x00") }, good)
	check(t, "no room for a byte", stream(fixed(0, lit('a'), end), good), 0, "", 0, api.ErrBig)
	check(t, "no room for a stored block", stream(stored(0, "a"), good), 0, "", 0, api.ErrBig)
	check(t, "no room for a match", stream(fixed(0, lit('a'), lit(257), dist(0)), good), 3, "", 0, api.ErrBig)
}

// P3.1: the last byte of a stream counts, whatever part of it is used.
func TestOccupied(t *testing.T) {
	for n := range 20 {
		s := strings.Repeat("\xf0", n)
		data := stream(fixed(1, append(text(s), end)...))
		if len(data) != (3+9*n+7+7)/8 {
			t.Fatalf("%d bytes for %d literals", len(data), n)
		}
		wantText(t, "literals of 9 bits", s, fixed(1, append(text(s), end)...))
		check(t, "with bytes behind it", data+noise(1000), big, s, len(data), api.OK)
	}
}

// P3.1, R3: a call does not depend on those before it.
func TestCallsAreApart(t *testing.T) {
	first := stream(fixed(1, append(text("abc"), end)...))
	second := stream(fixed(1, lit(257), dist(2), end))
	for range 2 {
		check(t, "three literals", first, big, "abc", len(first), api.OK)
		check(t, "a match of nothing", second, big, "", 0, api.ErrFar)
	}
}

// P3.1: the output of a small stream may be great.
func TestGreatOutput(t *testing.T) {
	symbols := text("a")
	for range 4000 {
		symbols = append(symbols, match(258, 1)...)
	}
	data := stream(fixed(1, append(symbols, end)...))
	n := 1 + 4000*258
	check(t, "4000 matches", data, n, strings.Repeat("a", n), len(data), api.OK)
	check(t, "4000 matches", data, n-1, "", 0, api.ErrBig)
	check(t, "4000 matches", data, 100, "", 0, api.ErrBig)
}
