package inflate_test

import (
	"slices"
	"testing"

	"vitrine/api"
	"vitrine/bits"
	"vitrine/huff"
	"vitrine/inflate"
)

// part writes some of a stream.
type part func(w *bits.Writer)

// stream is the bytes of parts.
func stream(parts ...part) string {
	w := bits.New()
	for _, p := range parts {
		p(w)
	}
	return w.Text()
}

// all is several parts as one.
func all(parts ...part) part {
	return func(w *bits.Writer) {
		for _, p := range parts {
			p(w)
		}
	}
}

// number is the n lowest bits of v.
func number(v, n int) part { return func(w *bits.Writer) { w.Bits(v, n) } }

// some is a list of n times the same length.
func some(n, length int) []int { return slices.Repeat([]int{length}, n) }

// head begins a block: last is 1 for the last one.
func head(last, kind int) part { return all(number(last, 1), number(kind, 2)) }

// stored is a stored block.
func stored(last int, text string) part {
	return func(w *bits.Writer) {
		n := len(text)
		head(last, 0)(w)
		w.Bytes(string([]byte{byte(n), byte(n >> 8), byte(^n), byte(^n >> 8)}) + text)
	}
}

// coded is a symbol and the extra bits behind it, which are v.
type coded struct {
	symbol, v, n int
	dist         bool
}

func lit(symbol int) coded            { return coded{symbol: symbol} }
func litMore(symbol, v, n int) coded  { return coded{symbol: symbol, v: v, n: n} }
func dist(symbol int) coded           { return coded{symbol: symbol, dist: true} }
func distMore(symbol, v, n int) coded { return coded{symbol: symbol, v: v, n: n, dist: true} }

// end ends a block.
var end = lit(256)

// text is literals.
func text(s string) []coded {
	var list []coded
	for i := range len(s) {
		list = append(list, lit(int(s[i])))
	}
	return list
}

// body is symbols in the codes of these lengths.
func body(lits, dists []int, symbols ...coded) part {
	a, _ := huff.Make(lits...)
	b, _ := huff.Make(dists...)
	return func(w *bits.Writer) {
		for _, c := range symbols {
			t := a
			if c.dist {
				t = b
			}
			if e := t.Lay(w, c.symbol); e != api.OK {
				panic(e)
			}
			w.Bits(c.v, c.n)
		}
	}
}

func fixedLits() []int { return slices.Concat(some(144, 8), some(112, 9), some(24, 7), some(8, 8)) }

// fixed is a fixed block; it ends only if the symbols say so.
func fixed(last int, symbols ...coded) part {
	return all(head(last, 1), body(fixedLits(), some(32, 5), symbols...))
}

// The order of the chapter.
var order = []int{16, 17, 18, 0, 8, 7, 9, 6, 10, 5, 11, 4, 12, 3, 13, 2, 14, 1, 15}

// evenSmall is lengths of a small code with all 19 symbols.
func evenSmall() []int { return append(some(13, 4), some(6, 5)...) }

// counts is the three numbers with which a dynamic block begins, behind its kind.
func counts(lits, dists, told int) part {
	return all(number(lits-257, 5), number(dists-1, 5), number(told-4, 4))
}

// smallLens is the first lengths of the small code, so many as are told.
func smallLens(lens []int, told int) part {
	return func(w *bits.Writer) {
		for _, symbol := range order[:told] {
			w.Bits(lens[symbol], 3)
		}
	}
}

// again, zeros and manyZeros are the small symbols that repeat lengths.
func again(v int) coded     { return litMore(16, v, 2) }
func zeros(v int) coded     { return litMore(17, v, 3) }
func manyZeros(v int) coded { return litMore(18, v, 7) }

// plain is small symbols that each tell one length.
func plain(lens ...int) []coded {
	var list []coded
	for _, n := range lens {
		list = append(list, lit(n))
	}
	return list
}

// codes is the tables of a dynamic block, told by small symbols in the even small code.
func codes(last, lits, dists int, small ...coded) part {
	return all(head(last, 2), counts(lits, dists, 19), smallLens(evenSmall(), 19), body(evenSmall(), nil, small...))
}

// dynamic is a dynamic block whose lengths are told one by one.
func dynamic(last int, lits, dists []int, symbols ...coded) part {
	lens := slices.Concat(lits, dists)
	return all(codes(last, len(lits), len(dists), plain(lens...)...), body(lits, dists, symbols...))
}

// litLens is lengths of so many literal and length symbols, which are 0 but for the symbols named.
func litLens(n int, named map[int]int) []int {
	lens := some(n, 0)
	for symbol, length := range named {
		lens[symbol] = length
	}
	return lens
}

// big is more than any output of a test.
const big = 1 << 20

// check holds the three results of Inflate against those that are wanted.
func check(t *testing.T, name, data string, most int, want string, n int, e api.Errno) {
	t.Helper()
	gotS, gotN, gotE := inflate.Inflate(data, most)
	if gotS != want || gotN != n || gotE != e {
		t.Errorf("%s, at most %d: %.60q (%d), %d, %v; not %.60q (%d), %d, %v", name, most, gotS, len(gotS), gotN, gotE, want, len(want), n, e)
	}
}

// wantText holds a stream of parts to its output, whole, with bytes behind it, with just enough room, and cut off.
func wantText(t *testing.T, name, want string, parts ...part) {
	t.Helper()
	data := stream(parts...)
	check(t, name, data, big, want, len(data), api.OK)
	check(t, name+" and more", data+"\x00\xff\x07", len(want), want, len(data), api.OK)
	if want != "" {
		check(t, name+" without room", data, len(want)-1, "", 0, api.ErrBig)
	}
	for n := range min(len(data), 400) {
		check(t, name+" cut off", data[:n], big, "", 0, api.ErrEnd)
	}
}

// wantError holds a stream of parts to its error, with bytes behind it and without.
func wantError(t *testing.T, name string, want api.Errno, parts ...part) {
	t.Helper()
	data := stream(parts...)
	check(t, name, data, big, "", 0, want)
	if want != api.ErrEnd {
		check(t, name+" and more", data+"\x00\xff\x07", big, "", 0, want)
	}
}
