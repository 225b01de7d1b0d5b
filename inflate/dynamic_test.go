package inflate_test

import (
	"slices"
	"strconv"
	"strings"
	"testing"

	"vitrine/api"
	"vitrine/huff"
)

// few is lengths for the literals a and b, the end and a match of 3 bytes.
func few() []int { return litLens(258, map[int]int{'a': 2, 'b': 2, 256: 2, 257: 2}) }

// P3.1: dynamic blocks of few and of many symbols.
func TestDynamic(t *testing.T) {
	wantText(t, "no match", "ab", dynamic(1, few(), []int{0}, lit('a'), lit('b'), end))
	wantText(t, "a match", "abaaaa", dynamic(1, few(), []int{1}, lit('a'), lit('b'), lit('a'), lit(257), dist(0), end))
	wantText(t, "two distances", "ababaaaa", dynamic(1, few(), []int{1, 1}, lit('a'), lit('b'), lit(257), dist(1), lit(257), dist(0), end))
	wantText(t, "the end alone", "", dynamic(1, litLens(257, map[int]int{256: 1}), []int{0}, end))
	wantText(t, "nothing between blocks", "ab", dynamic(0, few(), []int{0}, lit('a'), end), dynamic(1, few(), []int{0}, lit('b'), end))
	wantText(t, "all kinds of blocks", "abcbcbcdbbb", fixed(0, append(text("ab"), end)...), stored(0, "c"),
		dynamic(0, few(), []int{0, 1}, lit('b'), end), stored(0, ""), fixed(0, append(text("cbcd"), end)...),
		dynamic(0, few(), []int{0}, lit('b'), end), dynamic(1, few(), []int{0}, lit('b'), lit('b'), end))
	wantText(t, "other tables in each block", "ab", dynamic(0, litLens(257, map[int]int{'a': 1, 256: 1}), []int{0}, lit('a'), end),
		dynamic(1, litLens(257, map[int]int{'b': 1, 256: 1}), []int{0}, lit('b'), end))
	wantText(t, "fixed tables behind dynamic ones", "ab", dynamic(0, litLens(257, map[int]int{'a': 1, 256: 1}), []int{0}, lit('a'), end), fixed(1, lit('b'), end))
}

// P3.1: as many symbols as there may be: 288 and 32; those that mean nothing may have code words, but may not occur.
func TestMostSymbols(t *testing.T) {
	for _, n := range []int{257, 258, 285, 286, 287, 288} {
		named := litLens(n, map[int]int{'x': 1, 256: 2, n - 1: 2})
		if n == 257 {
			named = litLens(n, map[int]int{'x': 1, 256: 1})
		}
		wantText(t, strconv.Itoa(n)+" symbols", "x", dynamic(1, named, []int{0}, lit('x'), end))
	}
	wantText(t, "the fixed code told", "xyz", dynamic(1, fixedLits(), some(32, 5), append(text("xyz"), end)...))
	for _, symbol := range []int{286, 287} {
		wantError(t, "symbol "+strconv.Itoa(symbol), api.ErrCode, dynamic(1, fixedLits(), some(32, 5), lit(symbol)))
	}
	for n := 1; n <= 32; n++ {
		dists := some(n, 0)
		dists[n-1] = 1
		wantText(t, strconv.Itoa(n)+" distances", "aa", dynamic(1, few(), dists, lit('a'), lit('a'), end))
		if n > 30 {
			wantError(t, "distance symbol "+strconv.Itoa(n-1), api.ErrCode, dynamic(1, few(), dists, lit('a'), lit(257), dist(n-1)))
		}
	}
}

// P3.1: codes of up to 15 bits.
func TestLongCodeWords(t *testing.T) {
	lits := litLens(286, map[int]int{256: 15, 257: 15})
	for i := range 14 {
		lits['a'+i] = i + 1
	}
	dists := append(some(15, 0), 15)
	for i := range 15 {
		dists[i] = i + 1
	}
	s := "abcdefghijklmn"
	wantText(t, "steep codes", s+s[12:]+s[12:13], dynamic(1, lits, dists, append(text(s), lit(257), dist(1), end)...))
	wantText(t, "the longest distance code words", strings.Repeat(s, 20)+repeated(strings.Repeat(s, 20), 6, 193)[280:],
		stored(0, strings.Repeat(s, 20)), dynamic(1, lits, dists, lit(257), distMore(15, 0, 6), lit(257), distMore(15, 0, 6), end))
}

// P3.1: codes of one word, and codes of none.
func TestPoorCodes(t *testing.T) {
	only := litLens(257, map[int]int{'a': 1})
	wantError(t, "no end", api.ErrEnd, dynamic(1, only, []int{0}, text("aaaa")...))
	check(t, "no end, no room", stream(dynamic(1, only, []int{0}, text("aaaa")...)), 3, "", 0, api.ErrBig)
	wantError(t, "a bit that is no code word", api.ErrCode, dynamic(1, only, []int{0}, lit('a')), number(1, 1))
	wantError(t, "no code word at all", api.ErrCode, dynamic(1, some(257, 0), []int{0}))
	wantError(t, "no code word at all, but distances", api.ErrCode, dynamic(1, some(288, 0), some(32, 5)))
	wantError(t, "a match without distances", api.ErrCode, dynamic(1, few(), []int{0}, lit('a'), lit(257)))
	wantError(t, "a match without distances, of 30 symbols", api.ErrCode, dynamic(1, few(), some(30, 0), lit('a'), lit(257)))
	wantError(t, "a bit that is no distance", api.ErrCode, dynamic(1, few(), []int{0, 1}, lit('a'), lit(257)), number(1, 1))
	// The extra bits of a length are read ahead of its distance, also if there are no distances.
	long := litLens(285, map[int]int{'a': 1, 256: 2, 284: 2})
	// One of these ends with a whole byte, so that nothing is left for the extra bits.
	whole := 0
	for n := range 8 {
		data := stream(dynamic(1, long, []int{0}, append(text(strings.Repeat("a", n)), lit(284))...))
		more := stream(dynamic(1, long, []int{0}, append(text(strings.Repeat("a", n)), lit(284))...), number(1, 1))
		if len(more) > len(data) {
			whole++
			check(t, "no extra bits, no distances", data, big, "", 0, api.ErrEnd)
			check(t, "extra bits, no distances", data+"\x00", big, "", 0, api.ErrCode)
		}
	}
	if whole != 1 {
		t.Errorf("%d of the streams end with a whole byte", whole)
	}
}

// P3.1: the three numbers and the lengths of the small code may be missing, in part or whole.
func TestMissingTables(t *testing.T) {
	data := stream(dynamic(1, few(), []int{1, 1}, end))
	for n := range len(data) {
		for _, most := range []int{-1, 0, big} {
			check(t, "tables cut off", data[:n], most, "", 0, api.ErrEnd)
		}
	}
}

// uneven is lengths of a small code with all 19 symbols, of which one has a much shorter word than the others.
func uneven(short int) []int {
	lens := append(some(14, 5), some(5, 6)...)
	if short < 14 {
		lens[14] = 5
	}
	lens[short] = 1
	return lens
}

// P3.1: the order in which the lengths of the small code are told: each symbol stands out once.
func TestSmallOrder(t *testing.T) {
	lits := litLens(257, map[int]int{256: 15})
	for i := range 15 {
		lits['a'+i] = i + 1
	}
	small := slices.Concat([]coded{manyZeros('a' - 11)}, plain(lits['a':'p']...), []coded{zeros(0), manyZeros(126), lit(0), again(0)}, plain(lits[256], 0))
	if lens := lensOf(small); !slices.Equal(lens, append(slices.Clone(lits), 0)) {
		t.Fatal(lens)
	}
	for short := range 19 {
		block := all(head(1, 2), counts(257, 1, 19), smallLens(uneven(short), 19), body(uneven(short), nil, small...))
		wantText(t, strconv.Itoa(short)+" has 1 bit", "abcdefghijklmno", block, body(lits, nil, append(text("abcdefghijklmno"), end)...))
	}
}

// lensOf is what small symbols tell.
func lensOf(small []coded) []int {
	var lens []int
	for _, c := range small {
		switch c.symbol {
		case 16:
			lens = append(lens, some(3+c.v, lens[len(lens)-1])...)
		case 17:
			lens = append(lens, some(3+c.v, 0)...)
		case 18:
			lens = append(lens, some(11+c.v, 0)...)
		default:
			lens = append(lens, c.symbol)
		}
	}
	return lens
}

// P3.1: each number of told lengths of the small code; those that are not told are 0.
func TestToldSmallLengths(t *testing.T) {
	for told := 4; told <= 19; told++ {
		// The words of all told symbols have 2 to 5 bits.
		ones := some(19, 0)
		for _, symbol := range order[:told] {
			ones[symbol] = 1
		}
		small, _ := huff.Limit(7, ones...)
		ahead := all(head(1, 2), counts(257, 1, told), smallLens(small, told))
		if told == 4 {
			wantError(t, "no length but 0", api.ErrCode, ahead, body(small, nil, manyZeros(127), manyZeros(258-138-11)))
			continue
		}
		// The first literal has no word, and the 256 other symbols have one of 8 bits.
		lens := []coded{lit(0), lit(8)}
		for range 42 {
			lens = append(lens, again(3))
		}
		lens = append(lens, again(0), lit(0))
		lits := append([]int{0}, some(256, 8)...)
		wantText(t, "told "+strconv.Itoa(told), "\x01\x80\xff", ahead, body(small, nil, lens...), body(lits, nil, append(text("\x01\x80\xff"), end)...))
	}
}

// P3.1: a small code that may not be, ahead of what would follow.
func TestWrongSmallCode(t *testing.T) {
	for _, c := range []struct {
		name string
		lens map[int]int
		want api.Errno
	}{
		{"three of 1 bit", map[int]int{16: 1, 17: 1, 18: 1}, api.ErrOver},
		{"nine of 3 bits", map[int]int{0: 3, 1: 3, 2: 3, 3: 3, 4: 3, 5: 3, 6: 3, 7: 3, 15: 3}, api.ErrOver},
		{"one of 2 bits", map[int]int{0: 2}, api.ErrLess},
		{"seven of 3 bits", map[int]int{0: 3, 1: 3, 2: 3, 3: 3, 4: 3, 5: 3, 6: 3}, api.ErrLess},
		{"one of 7 bits", map[int]int{15: 7}, api.ErrLess},
		{"none", nil, api.ErrCode},
	} {
		small := litLens(19, c.lens)
		wantError(t, c.name, c.want, head(1, 2), counts(257, 1, 19), smallLens(small, 19))
		wantError(t, c.name+" of 288 and 32", c.want, head(0, 2), counts(288, 32, 19), smallLens(small, 19))
	}
	// A code of one word: 257 and 1 times the length 0, or a bit that is none.
	one := litLens(19, map[int]int{0: 1})
	wantError(t, "zeros alone", api.ErrCode, head(1, 2), counts(257, 1, 19), smallLens(one, 19), body(one, nil, plain(some(258, 0)...)...))
	wantError(t, "a bit that is no code word", api.ErrCode, head(1, 2), counts(257, 1, 19), smallLens(one, 19), body(one, nil, plain(some(257, 0)...)...), number(1, 1))
	// 17 and 57 bits, and 254 lengths of 1 bit, are 41 bytes.
	wantError(t, "lengths are missing", api.ErrEnd, head(1, 2), counts(257, 1, 19), smallLens(one, 19), body(one, nil, plain(some(254, 0)...)...))
}

// P3.1: the least and the greatest number of each repetition.
func TestRepetitions(t *testing.T) {
	for v := range 4 {
		// 128 lengths of 8 bits, of which n are told by 16, and one of 1 bit.
		n := 1 + 3 + v
		lits := slices.Concat(some(n, 8), some(128, 0), some(128-n, 8), []int{1})
		small := slices.Concat([]coded{lit(8), again(v)}, plain(lits[n:]...), plain(0))
		wantText(t, "16 and "+strconv.Itoa(v), "\x00"+string([]byte{byte(n - 1)})+"\xff", codes(1, 257, 1, small...), body(lits, nil, lit(0), lit(n-1), lit(255), end))
	}
	for v := range 8 {
		lits := litLens(257, map[int]int{3 + v: 1, 256: 1})
		small := slices.Concat([]coded{zeros(v)}, plain(lits[3+v:]...), plain(0))
		wantText(t, "17 and "+strconv.Itoa(v), string([]byte{byte(3 + v)}), codes(1, 257, 1, small...), body(lits, nil, lit(3+v), end))
	}
	for v := range 128 {
		lits := litLens(257, map[int]int{11 + v: 1, 256: 1})
		small := slices.Concat([]coded{manyZeros(v)}, plain(lits[11+v:]...), plain(0))
		wantText(t, "18 and "+strconv.Itoa(v), string([]byte{byte(11 + v)}), codes(1, 257, 1, small...), body(lits, nil, lit(11+v), end))
	}
}

// P3.1: what 16 repeats: what a repetition ended with, and the last literal length among the distances.
func TestRepetitionsOfRepetitions(t *testing.T) {
	lits := litLens(257, map[int]int{'a': 2, 'b': 2, 'c': 2, 256: 2})
	wantText(t, "16 behind 17", "abc", codes(1, 257, 1, slices.Concat([]coded{zeros(0), again(3), again(0)}, plain(lits[12:]...), plain(0))...),
		body(lits, nil, append(text("abc"), end)...))
	wantText(t, "16 behind 18", "abc", codes(1, 257, 1, slices.Concat([]coded{manyZeros(0), again(1)}, plain(lits[15:]...), plain(0))...),
		body(lits, nil, append(text("abc"), end)...))
	wantText(t, "16 among the distances", "abcabc", codes(1, 257, 4, slices.Concat(plain(lits...), []coded{lit(2), again(0)})...),
		body(lits, some(4, 2), append(text("abcabc"), end)...))
	lits = litLens(258, map[int]int{'a': 2, 'b': 2, 256: 2, 257: 2})
	wantText(t, "16 from the literals to the distances", "abababbb", codes(1, 258, 4, slices.Concat(plain(lits[:256]...), []coded{lit(2), again(2)})...),
		body(lits, some(4, 2), lit('a'), lit('b'), lit('a'), lit(257), dist(1), lit('b'), lit('b'), end))
	wantText(t, "18 from the literals to the distances", "x", codes(1, 288, 10, slices.Concat(plain(litLens(257, map[int]int{'x': 1, 256: 1})...), []coded{manyZeros(30)})...),
		body(litLens(288, map[int]int{'x': 1, 256: 1}), nil, lit('x'), end))
}

// P3.1: 16 without a length to repeat, whether its extra bits are there or not.
func TestRepetitionOfNothing(t *testing.T) {
	wantError(t, "16 first", api.ErrCode, codes(1, 257, 1, again(0)))
	wantError(t, "16 first, and all that follows", api.ErrCode, codes(1, 257, 1, append([]coded{again(3)}, plain(some(252, 0)...)...)...))
	// 17 and 54 bits, and the code word 1, are 9 bytes: nothing is left for the extra bits.
	small := litLens(19, map[int]int{16: 1, 0: 1})
	data := stream(head(1, 2), counts(257, 1, 18), smallLens(small, 18), number(1, 1))
	if len(data) != 9 {
		t.Fatalf("%d bytes", len(data))
	}
	check(t, "16 first, without extra bits", data, big, "", 0, api.ErrCode)
}

// P3.1: repetitions that end with the last length, and that exceed it.
func TestRepetitionsThatExceed(t *testing.T) {
	lits := litLens(257, map[int]int{'x': 1, 256: 1})
	// The literal lengths, one distance length 0, then the repetition.
	ahead := append(plain(lits...), lit(0))
	for _, c := range []struct {
		name        string
		again       func(int) coded
		least, most int
	}{
		{"16", again, 3, 3}, {"17", zeros, 3, 7}, {"18", manyZeros, 11, 127},
	} {
		for dists := 2; dists <= 32; dists++ {
			for v := range min(c.most, 31) + 1 {
				n := 1 + c.least + v
				block := codes(1, 257, dists, append(slices.Clone(ahead), c.again(v))...)
				switch {
				case n > dists:
					wantError(t, c.name+" exceeds", api.ErrCode, block)
				case n == dists:
					wantText(t, c.name+" is the end", "x", block, body(lits, nil, lit('x'), end))
				}
			}
		}
	}
	wantError(t, "18 exceeds all", api.ErrCode, codes(1, 257, 1, append(plain(lits[:200]...), manyZeros(127))...))
	// Whether all lengths are 0 or too many, ErrCode it is: the literals have no code word then.
	wantError(t, "18 exceeds by 1", api.ErrCode, codes(1, 257, 1, manyZeros(127), manyZeros(258-138-11+1)))
	wantError(t, "18 is just enough", api.ErrCode, codes(1, 257, 1, manyZeros(127), manyZeros(258-138-11)))
}

// P3.1: a repetition that exceeds is told of behind its extra bits.
func TestExceedingWithoutExtraBits(t *testing.T) {
	for _, symbol := range []int{16, 17, 18} {
		// 17 and 57 bits, and 259 words of 2 bits, are 74 bytes: nothing is left for the extra bits.
		small := litLens(19, map[int]int{0: 2, 1: 2, 2: 2, symbol: 2})
		data := stream(head(1, 2), counts(258, 1, 19), smallLens(small, 19), body(small, nil, append(plain(some(258, 0)...), lit(symbol))...))
		if len(data) != 74 {
			t.Fatalf("%d bytes", len(data))
		}
		check(t, "no extra bits of "+strconv.Itoa(symbol), data, big, "", 0, api.ErrEnd)
		check(t, "all extra bits of "+strconv.Itoa(symbol), data+"\x00", big, "", 0, api.ErrCode)
	}
}

// P3.1: the lengths are checked when all of them are read, those of the literals and lengths first.
func TestWrongLengths(t *testing.T) {
	over := litLens(257, map[int]int{'a': 1, 'b': 1, 256: 1})
	less := litLens(257, map[int]int{'a': 2, 256: 2})
	good := litLens(257, map[int]int{'a': 1, 256: 1})
	for _, c := range []struct {
		name        string
		lits, dists []int
		want        api.Errno
	}{
		{"too many literals", over, []int{0}, api.ErrOver},
		{"too many literals, too few distances", over, []int{2}, api.ErrOver},
		{"too few literals", less, []int{0}, api.ErrLess},
		{"too few literals, too many distances", less, []int{1, 1, 1}, api.ErrLess},
		{"one literal of 2 bits", litLens(257, map[int]int{256: 2}), []int{0}, api.ErrLess},
		{"too many distances", good, []int{1, 1, 1}, api.ErrOver},
		{"too few distances", good, []int{0, 2}, api.ErrLess},
		{"one distance of 15 bits", good, []int{15}, api.ErrLess},
		{"too many distances, no literals", some(257, 0), []int{1, 1, 1}, api.ErrOver},
		{"too few distances, no literals", some(257, 0), []int{2, 2, 2}, api.ErrLess},
	} {
		lens := plain(slices.Concat(c.lits, c.dists)...)
		wantError(t, c.name, c.want, codes(1, 257, len(c.dists), lens...))
		check(t, c.name, stream(codes(0, 257, len(c.dists), lens...)), -1, "", 0, c.want)
		// What is missing, or may not be, among the lengths is told of ahead of that.
		wantError(t, c.name+", and a length is missing", api.ErrEnd, codes(1, 257, len(c.dists)+3, lens...))
		wantError(t, c.name+", and a repetition exceeds", api.ErrCode, codes(1, 257, len(c.dists)+2, append(lens, manyZeros(0))...))
	}
	// The literals are those before the first distance, not more and not fewer.
	wantText(t, "the last literal length", "a", codes(1, 258, 1, plain(append(slices.Clone(good), 0, 0)...)...), body(good, nil, lit('a'), end))
	wantError(t, "the distances by themselves", api.ErrOver, codes(1, 257, 4, plain(append(slices.Clone(good), 1, 1, 1, 0)...)...))
	wantError(t, "the literals by themselves", api.ErrLess, codes(1, 257, 2, plain(append(litLens(257, map[int]int{'a': 1, 256: 2}), 2, 0)...)...))
}

// P3.1: lengths without one for the end are no fault by themselves.
func TestNoEnd(t *testing.T) {
	lits := litLens(257, map[int]int{'a': 1, 'b': 1})
	wantError(t, "no end", api.ErrEnd, dynamic(1, lits, []int{0}, text("abab")...))
	wantError(t, "no literals, but an end that is missing", api.ErrEnd, dynamic(1, litLens(258, map[int]int{257: 1, 'a': 1}), []int{1}, lit('a'), lit(257), dist(0)))
}
