package huff_test

import (
	"math"
	"math/rand"
	"slices"
	"strings"
	"testing"

	"vitrine/api"
	"vitrine/bits"
	"vitrine/huff"
)

// some is a list of n times the same length.
func some(n, length int) []int { return slices.Repeat([]int{length}, n) }

// stairs is complete: one code word of each length up to the last one, and one more of this.
func stairs(last int) []int {
	var lens []int
	for n := range last {
		lens = append(lens, n+1)
	}
	return append(lens, last)
}

// fixed is the lengths of the fixed literal and length symbols: complete, with 288 symbols.
func fixed() []int {
	return slices.Concat(some(144, 8), some(112, 9), some(24, 7), some(8, 8))
}

// randomLens is complete lengths: leaves of a tree that is split at random, with symbols without code words between them.
func randomLens(rnd *rand.Rand, most int) []int {
	leaves := []int{1, 1}
	for range rnd.Intn(most) {
		i := rnd.Intn(len(leaves))
		if leaves[i] < 15 {
			leaves[i]++
			leaves = append(leaves, leaves[i])
		}
	}
	for range rnd.Intn(20) {
		leaves = append(leaves, 0)
	}
	rnd.Shuffle(len(leaves), func(i, j int) { leaves[i], leaves[j] = leaves[j], leaves[i] })
	return leaves
}

type checkCase struct {
	name string
	lens []int
	want api.Errno
}

func checkCases() []checkCase {
	return []checkCase{
		{"no lengths", nil, api.OK},
		{"one empty length", []int{0}, api.OK},
		{"empty", []int{0, 0}, api.OK},
		{"288 empty ones", some(288, 0), api.OK},
		{"289 empty ones", some(289, 0), api.ErrArg},
		{"single", []int{1}, api.OK},
		{"single behind zeros", []int{0, 0, 1}, api.OK},
		{"single ahead of zeros", []int{1, 0}, api.OK},
		{"single as the last of 288", append(some(287, 0), 1), api.OK},
		{"one code word of 2 bits", []int{2}, api.ErrLess},
		{"one code word of 15 bits", []int{0, 15}, api.ErrLess},
		{"half the sum by two code words", []int{2, 2}, api.ErrLess},
		{"complete", []int{1, 1}, api.OK},
		{"complete with a zero", []int{1, 0, 1}, api.OK},
		{"the example", []int{2, 1, 3, 3}, api.OK},
		{"three of 1 bit", []int{1, 1, 1}, api.ErrOver},
		{"288 of 1 bit", some(288, 1), api.ErrOver},
		{"289 of 1 bit", some(289, 1), api.ErrArg},
		{"fixed", fixed(), api.OK},
		{"fixed with one more of 288", append(fixed(), 0), api.ErrArg},
		{"to 15 bits", stairs(15), api.OK},
		{"2^15 less 1", stairs(15)[:15], api.ErrLess},
		{"2^15 and 1", append(stairs(15), 15), api.ErrOver},
		{"256 of 8 bits", some(256, 8), api.OK},
		{"255 of 8 bits", some(255, 8), api.ErrLess},
		{"257 of 8 bits", some(257, 8), api.ErrOver},
		{"288 of 9 bits", some(288, 9), api.ErrLess},
		{"288 of 15 bits", some(288, 15), api.ErrLess},
		{"16", []int{16}, api.ErrArg},
		{"16 behind a complete set", []int{1, 1, 16}, api.ErrArg},
		{"16 behind a sum that is too great", []int{1, 1, 1, 16}, api.ErrArg},
		{"negative", []int{-1}, api.ErrArg},
		{"negative behind a sum that is too great", []int{1, 1, 1, -1}, api.ErrArg},
		{"negative behind a sum that is too small", []int{2, -1}, api.ErrArg},
		{"the greatest number", []int{1, 1, math.MaxInt}, api.ErrArg},
		{"the least number", []int{math.MinInt, 1}, api.ErrArg},
	}
}

// P2.1, P2.2: the errors of lengths, of all three functions that take them.
func TestCheck(t *testing.T) {
	for _, c := range checkCases() {
		if got := huff.Check(c.lens...); got != c.want {
			t.Errorf("%s: Check: %v, not %v", c.name, got, c.want)
		}
		codes, e := huff.Codes(c.lens...)
		if e != c.want || e != api.OK && codes != nil || e == api.OK && len(codes) != len(c.lens) {
			t.Errorf("%s: Codes: %v, %v, not %v", c.name, codes, e, c.want)
		}
		table, e := huff.Make(c.lens...)
		if e != c.want || (table != nil) != (e == api.OK) {
			t.Errorf("%s: Make: %v, %v, not %v", c.name, table != nil, e, c.want)
		}
	}
}

// P2.1: all lists of few short lengths, by their sum.
func TestCheckSmallLists(t *testing.T) {
	for k := range 5 * 5 * 5 * 5 * 5 {
		var lens []int
		sum, words := 0, 0
		for rest := k; rest > 0; rest /= 5 {
			n := rest % 5
			lens = append(lens, n)
			if n > 0 {
				sum += 1 << (15 - n)
				words++
			}
		}
		want := api.OK
		switch {
		case sum > 1<<15:
			want = api.ErrOver
		case words == 0 || words == 1 && slices.Contains(lens, 1):
		case sum < 1<<15:
			want = api.ErrLess
		}
		if got := huff.Check(lens...); got != want {
			t.Errorf("%v: %v, not %v", lens, got, want)
		}
	}
}

// wantCodes is the code words as the document words them.
func wantCodes(lens []int) []int {
	var order []int
	for symbol, n := range lens {
		if n > 0 {
			order = append(order, symbol)
		}
	}
	slices.SortFunc(order, func(a, b int) int {
		if lens[a] != lens[b] {
			return lens[a] - lens[b]
		}
		return a - b
	})
	codes := make([]int, len(lens))
	for i, symbol := range order {
		if i > 0 {
			codes[symbol] = (codes[order[i-1]] + 1) * int(math.Pow(2, float64(lens[symbol]-lens[order[i-1]])))
		}
	}
	return codes
}

// P2.1: the code words of lists that were worked out by hand.
func TestCodes(t *testing.T) {
	for _, c := range []struct{ lens, want []int }{
		{nil, []int{}},
		{[]int{0}, []int{0}},
		{[]int{0, 0, 0}, []int{0, 0, 0}},
		{[]int{1}, []int{0}},
		{[]int{0, 1, 0}, []int{0, 0, 0}},
		{[]int{1, 1}, []int{0, 1}},
		{[]int{2, 1, 3, 3}, []int{2, 0, 6, 7}},
		{[]int{3, 3, 3, 3, 3, 2, 4, 4}, []int{2, 3, 4, 5, 6, 0, 14, 15}},
		{[]int{4, 0, 1, 4, 4, 0, 4, 2}, []int{12, 0, 0, 13, 14, 0, 15, 2}},
		{[]int{1, 4, 4, 4, 4, 4, 4, 4, 4}, []int{0, 8, 9, 10, 11, 12, 13, 14, 15}},
	} {
		got, e := huff.Codes(c.lens...)
		if e != api.OK || !slices.Equal(got, c.want) {
			t.Errorf("%v: %v, %v, not %v", c.lens, got, e, c.want)
		}
	}
	long, e := huff.Codes(stairs(15)...)
	if e != api.OK || long[0] != 0 || long[1] != 2 || long[13] != 1<<14-2 || long[14] != 1<<15-2 || long[15] != 1<<15-1 {
		t.Errorf("of 1 to 15 bits: %v, %v", long, e)
	}
	of, e := huff.Codes(fixed()...)
	if e != api.OK || of[0] != 0x30 || of[143] != 0xbf || of[144] != 0x190 || of[255] != 0x1ff || of[256] != 0 || of[279] != 0x17 || of[280] != 0xc0 || of[287] != 0xc7 {
		t.Errorf("fixed: %v, %v", of, e)
	}
}

// P2.1: the code words of lists of many kinds.
func TestCodesByDefinition(t *testing.T) {
	rnd := rand.New(rand.NewSource(1))
	for range 300 {
		lens := randomLens(rnd, 260)
		got, e := huff.Codes(lens...)
		if want := wantCodes(lens); e != api.OK || !slices.Equal(got, want) {
			t.Fatalf("%v: %v, %v, not %v", lens, got, e, want)
		}
	}
}

func mustMake(t *testing.T, lens ...int) *huff.Table {
	t.Helper()
	table, e := huff.Make(lens...)
	if e != api.OK || table == nil {
		t.Fatalf("Make of %v: %v, %v", lens, table, e)
	}
	return table
}

func wantNext(t *testing.T, table *huff.Table, r *bits.Reader, symbol int, e api.Errno, left int) {
	t.Helper()
	gotSymbol, gotE := table.Next(r)
	if gotSymbol != symbol || gotE != e || r.Left() != left {
		t.Errorf("Next: %d, %v, %d left; not %d, %v, %d left", gotSymbol, gotE, r.Left(), symbol, e, left)
	}
}

func wantLay(t *testing.T, table *huff.Table, w *bits.Writer, symbol int, e api.Errno, text string) {
	t.Helper()
	if got := table.Lay(w, symbol); got != e || w.Text() != text {
		t.Errorf("Lay(%d): %v, % x; not %v, % x", symbol, got, w.Text(), e, text)
	}
}

// P2.2: a code word goes with its most significant bit first; what is no symbol of the table writes nothing.
func TestLay(t *testing.T) {
	table := mustMake(t, 2, 1, 0, 3, 3)
	w := bits.New()
	for _, symbol := range []int{2, -1, 5, 288, math.MaxInt, math.MinInt} {
		wantLay(t, table, w, symbol, api.ErrArg, "")
	}
	wantLay(t, table, w, 0, api.OK, "\x01")
	wantLay(t, table, w, 3, api.OK, "\x0d")
	wantLay(t, table, w, 2, api.ErrArg, "\x0d")
	wantLay(t, table, w, 1, api.OK, "\x0d")
	wantLay(t, table, w, 4, api.OK, "\xcd\x01")
	wantLay(t, table, w, 1, api.OK, "\xcd\x01")
	wantLay(t, table, w, 4, api.OK, "\xcd\x1d")
}

// P2.2: code words of 15 bits, and of a list of 288 symbols.
func TestLayLong(t *testing.T) {
	table := mustMake(t, stairs(15)...)
	w := bits.New()
	wantLay(t, table, w, 14, api.OK, "\xff\x3f")
	wantLay(t, table, w, 15, api.OK, "\xff\xbf\xff\x3f")
	table = mustMake(t, fixed()...)
	w = bits.New()
	wantLay(t, table, w, 'a', api.OK, "\x89")
	wantLay(t, table, w, 287, api.OK, "\x89\xe3")
	wantLay(t, table, w, 288, api.ErrArg, "\x89\xe3")
	wantLay(t, table, w, 256, api.OK, "\x89\xe3\x00")
}

// P2.2: a single code word is one zero bit, and empty lengths have none.
func TestLaySingleAndEmpty(t *testing.T) {
	w := bits.New()
	w.Bits(1, 1)
	table := mustMake(t, 0, 1, 0)
	wantLay(t, table, w, 1, api.OK, "\x01")
	wantLay(t, table, w, 0, api.ErrArg, "\x01")
	wantLay(t, table, w, 2, api.ErrArg, "\x01")
	w.Bits(1, 1)
	for _, empty := range []*huff.Table{mustMake(t), mustMake(t, 0, 0)} {
		for symbol := -1; symbol < 3; symbol++ {
			wantLay(t, empty, w, symbol, api.ErrArg, "\x05")
		}
	}
}

// P2.2: no table, no reader and no writer are told ahead of all else.
func TestNil(t *testing.T) {
	var none *huff.Table
	r := bits.Read("\x00")
	wantNext(t, none, r, 0, api.ErrNil, 8)
	wantNext(t, none, nil, 0, api.ErrNil, 0)
	w := bits.New()
	wantLay(t, none, w, 0, api.ErrNil, "")
	wantLay(t, none, w, -1, api.ErrNil, "")
	wantLay(t, none, nil, 0, api.ErrNil, "")
	for _, table := range []*huff.Table{mustMake(t), mustMake(t, 0), mustMake(t, 1), mustMake(t, 1, 1)} {
		wantNext(t, table, nil, 0, api.ErrNil, 0)
		wantLay(t, table, nil, 0, api.ErrNil, "")
		wantLay(t, table, nil, -1, api.ErrNil, "")
	}
}

// P2.2: where the bits end within a code word they are consumed.
func TestNextEnd(t *testing.T) {
	table := mustMake(t, 2, 1, 3, 3)
	r := bits.Read("")
	wantNext(t, table, r, 0, api.ErrEnd, 0)
	r = bits.Read("\xfa\xc0")
	wantNext(t, table, r, 1, api.OK, 15)
	wantNext(t, table, r, 0, api.OK, 13)
	wantNext(t, table, r, 3, api.OK, 10)
	wantNext(t, table, r, 2, api.OK, 7)
	for left := 6; left >= 2; left-- {
		wantNext(t, table, r, 1, api.OK, left)
	}
	wantNext(t, table, r, 0, api.ErrEnd, 0)
	wantNext(t, table, r, 0, api.ErrEnd, 0)
	table = mustMake(t, stairs(15)...)
	r = bits.Read("\xff\x3f\xff\x3f")
	wantNext(t, table, r, 14, api.OK, 17)
	r.Bits(1)
	wantNext(t, table, r, 14, api.OK, 1)
	r = bits.Read("\xff\x7f")
	r.Bits(2)
	wantNext(t, table, r, 13, api.OK, 0)
	r = bits.Read("\xff\xff")
	r.Bits(2)
	wantNext(t, table, r, 0, api.ErrEnd, 0)
}

// P2.2: of single lengths, a bit that is no code word is consumed, and just this one.
func TestNextSingle(t *testing.T) {
	table := mustMake(t, 0, 0, 1)
	r := bits.Read("\x5a")
	for i, bit := range []int{0, 1, 0, 1, 1, 0, 1, 0} {
		if bit == 0 {
			wantNext(t, table, r, 2, api.OK, 7-i)
		} else {
			wantNext(t, table, r, 0, api.ErrCode, 7-i)
		}
	}
	wantNext(t, table, r, 0, api.ErrEnd, 0)
	r = bits.Read("\x01")
	wantNext(t, mustMake(t, 1), r, 0, api.ErrCode, 7)
	wantNext(t, mustMake(t, 1), r, 0, api.OK, 6)
}

// P2.2: of empty lengths, no bit is read, and it is no matter whether there is one.
func TestNextEmpty(t *testing.T) {
	for _, table := range []*huff.Table{mustMake(t), mustMake(t, 0), mustMake(t, some(288, 0)...), {}} {
		r := bits.Read("\x00")
		wantNext(t, table, r, 0, api.ErrCode, 8)
		wantNext(t, table, r, 0, api.ErrCode, 8)
		r.Bits(8)
		wantNext(t, table, r, 0, api.ErrCode, 0)
	}
}

// P2.2: what stands ahead of a code word in its byte is no matter.
func TestNextAtEachBit(t *testing.T) {
	table := mustMake(t, stairs(15)...)
	for skip := range 9 {
		for symbol := range 16 {
			w := bits.New()
			w.Bits(-1, skip)
			table.Lay(w, symbol)
			r := bits.Read(w.Text())
			r.Bits(skip)
			wantNext(t, table, r, symbol, api.OK, 8*len(w.Text())-skip-min(symbol+1, 15))
		}
	}
}

// digits is n bits of a number as text, the most significant one first.
func digits(v, n int) string {
	var b strings.Builder
	for i := n - 1; i >= 0; i-- {
		b.WriteByte('0' + byte(v>>i&1))
	}
	return b.String()
}

// bitsOf is all bits of bytes as text.
func bitsOf(s string) string {
	var b strings.Builder
	for i := range len(s) {
		for j := range 8 {
			b.WriteByte('0' + s[i]>>j&1)
		}
	}
	return b.String()
}

// P2.2, P2.4: what is laid is the code words bit by bit, and is read again; bits of any kind are read as the document words it.
func TestLaidIsRead(t *testing.T) {
	rnd := rand.New(rand.NewSource(2))
	for range 200 {
		lens := randomLens(rnd, 200)
		table, codes := mustMake(t, lens...), wantCodes(lens)
		byWord := map[string]int{}
		for symbol, n := range lens {
			if n > 0 {
				byWord[digits(codes[symbol], n)] = symbol
			}
		}
		w := bits.New()
		var symbols []int
		want := ""
		for range rnd.Intn(40) {
			symbol := rnd.Intn(len(lens))
			e := table.Lay(w, symbol)
			if (e == api.OK) != (lens[symbol] > 0) {
				t.Fatalf("%v: Lay(%d): %v", lens, symbol, e)
			}
			if e == api.OK {
				symbols = append(symbols, symbol)
				want += digits(codes[symbol], lens[symbol])
			}
		}
		if got := bitsOf(w.Text()); !strings.HasPrefix(got, want) || len(got) >= len(want)+8 {
			t.Fatalf("%v: %v are laid as %s, not %s", lens, symbols, got, want)
		}
		r := bits.Read(w.Text())
		for _, symbol := range symbols {
			wantNext(t, table, r, symbol, api.OK, r.Left()-lens[symbol])
		}
		data := make([]byte, rnd.Intn(40))
		rnd.Read(data)
		readAll(t, table, byWord, string(data))
	}
}

// readAll reads bytes up to their end, and holds each symbol against the words.
func readAll(t *testing.T, table *huff.Table, byWord map[string]int, data string) {
	t.Helper()
	r := bits.Read(data)
	rest := bitsOf(data)
	for {
		n := 0
		symbol, ok := 0, false
		for n < len(rest) && !ok {
			n++
			symbol, ok = byWord[rest[:n]]
		}
		rest = rest[n:]
		if !ok {
			wantNext(t, table, r, 0, api.ErrEnd, 0)
			return
		}
		wantNext(t, table, r, symbol, api.OK, len(rest))
	}
}

// R2: arguments are neither changed nor kept, also not behind the end of the list; results are the caller's.
func TestArgumentsAndResultsAreApart(t *testing.T) {
	back := []int{2, 1, 3, 3, 7, 7, 7}
	lens := back[:4]
	codes, _ := huff.Codes(lens...)
	table := mustMake(t, lens...)
	huff.Check(lens...)
	huff.Limit(15, lens...)
	if !slices.Equal(back, []int{2, 1, 3, 3, 7, 7, 7}) {
		t.Errorf("arguments are changed: %v", back)
	}
	clear(codes)
	if again, _ := huff.Codes(lens...); !slices.Equal(again, []int{2, 0, 6, 7}) {
		t.Errorf("results share memory: %v", again)
	}
	copy(back, []int{1, 2, 0, 0})
	other := mustMake(t, 1, 1)
	w := bits.New()
	wantLay(t, table, w, 1, api.OK, "\x00")
	wantLay(t, other, w, 1, api.OK, "\x02")
	wantLay(t, table, w, 3, api.OK, "\x1e")
	r := bits.Read(w.Text())
	wantNext(t, table, r, 1, api.OK, 7)
	wantNext(t, other, r, 1, api.OK, 6)
	wantNext(t, table, r, 3, api.OK, 3)
}
