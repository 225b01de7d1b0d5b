package deflate

import (
	"slices"

	"vitrine/bits"
	"vitrine/huff"
)

const (
	mostLen      = 15 // bits of a code word
	mostSmallLen = 7  // bits of a code word of the small code

	// Lengths that a dynamic block tells at least.
	leastSymbols   = 257
	leastDistances = 1
	leastSmall     = 4

	smallSymbols = 19
)

// smallOrder is the order in which the lengths of the small code are told.
var smallOrder = [smallSymbols]int{16, 17, 18, 0, 8, 7, 9, 6, 10, 5, 11, 4, 12, 3, 13, 2, 14, 1, 15}

// lengths is those of symbols that occur so often. Limit has an error only if one of them occurs more than 1000000000 times:
// the document gives no lengths for that.
func lengths(most int, counts []int) []int {
	lens, _ := huff.Limit(most, counts...)
	return lens
}

// trimmed is lengths without the zeros at their end, but never fewer than least.
func trimmed(lens []int, least int) []int {
	for len(lens) > least && lens[len(lens)-1] == 0 {
		lens = lens[:len(lens)-1]
	}
	return lens
}

// layLengths writes what a dynamic block has ahead of its symbols: the small code, and in it the lengths.
func layLengths(w *bits.Writer, symbols, distances []int) {
	runs := Runs(slices.Concat(symbols, distances)...)
	small := smallLengths(runs)
	told := trimmed(ordered(small), leastSmall)
	w.Bits(len(symbols)-leastSymbols, 5)
	w.Bits(len(distances)-leastDistances, 5)
	w.Bits(len(told)-leastSmall, 4)
	for _, n := range told {
		w.Bits(n, 3)
	}
	table, _ := huff.Make(small...)
	for _, run := range runs {
		lay(w, table, coded{run.Code, run.More, extraOf(run.Code)})
	}
}

// smallLengths is the lengths of the small code for runs.
func smallLengths(runs []Run) []int {
	counts := make([]int, smallSymbols)
	for _, run := range runs {
		counts[run.Code]++
	}
	return lengths(mostSmallLen, counts)
}

// ordered is lengths of the small code in the order in which they are told.
func ordered(small []int) []int {
	lens := make([]int, smallSymbols)
	for i, symbol := range smallOrder {
		lens[i] = small[symbol]
	}
	return lens
}
