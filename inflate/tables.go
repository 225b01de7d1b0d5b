package inflate

import (
	"slices"

	"vitrine/api"
	"vitrine/huff"
)

const (
	leastSymbols   = 257 // literal and length symbols of a dynamic block
	leastDistances = 1
	leastSmall     = 4 // lengths of the small code
	smallSymbols   = 19

	againSymbol = 16 // the first small symbol that repeats a length, and the one that repeats the previous length
)

// smallOrder is the order in which the lengths of the small code are told.
var smallOrder = [smallSymbols]int{16, 17, 18, 0, 8, 7, 9, 6, 10, 5, 11, 4, 12, 3, 13, 2, 14, 1, 15}

// leastTimes and timesBits are, for the small symbols from 16 on, how often a length is repeated at least,
// and how many extra bits tell how often more.
var (
	leastTimes = [...]int{3, 3, 11}
	timesBits  = [...]int{2, 3, 7}
)

// tables is those of a block: of its literal and length symbols, and of its distance symbols.
type tables struct {
	symbols, distances *huff.Table
}

// makeTables is the tables of lengths; those of the literal and length symbols are checked first.
func makeTables(symbols, distances []int) (tables, api.Errno) {
	a, e := huff.Make(symbols...)
	if e != api.OK {
		return tables{}, e
	}
	b, e := huff.Make(distances...)
	if e != api.OK {
		return tables{}, e
	}
	return tables{a, b}, api.OK
}

// fixedTables makes its tables only once: a stream may have many fixed blocks of a few bits.
func (s *stream) fixedTables() (tables, api.Errno) {
	if s.fixed.symbols != nil {
		return s.fixed, api.OK
	}
	symbols := slices.Concat(repeated(8, 144), repeated(9, 112), repeated(7, 24), repeated(8, 8))
	t, e := makeTables(symbols, repeated(5, 32))
	s.fixed = t
	return t, e
}

// repeated is n times the same length.
func repeated(length, n int) []int { return slices.Repeat([]int{length}, n) }

// dynamicTables reads the tables with which a dynamic block begins.
func (s *stream) dynamicTables() (tables, api.Errno) {
	counts, e := s.in.Bits(5 + 5 + 4)
	if e != api.OK {
		return tables{}, e
	}
	symbols := leastSymbols + (counts & 31)
	distances := leastDistances + (counts >> 5 & 31)
	small, e := s.smallTable(leastSmall + counts>>10)
	if e != api.OK {
		return tables{}, e
	}
	lens, e := s.readLengths(small, symbols+distances)
	if e != api.OK {
		return tables{}, e
	}
	return makeTables(lens[:symbols], lens[symbols:])
}

// smallTable reads the small code, of which so many lengths are told.
func (s *stream) smallTable(told int) (*huff.Table, api.Errno) {
	var lens [smallSymbols]int
	for i := range told {
		n, e := s.in.Bits(3)
		if e != api.OK {
			return nil, e
		}
		lens[smallOrder[i]] = n
	}
	return huff.Make(lens[:]...)
}

// readLengths reads n lengths in the small code.
func (s *stream) readLengths(small *huff.Table, n int) ([]int, api.Errno) {
	var lens []int
	for len(lens) < n {
		symbol, e := small.Next(s.in)
		switch {
		case e != api.OK:
		case symbol < againSymbol:
			lens = append(lens, symbol)
		default:
			lens, e = s.repeat(symbol, lens)
		}
		if e != api.OK {
			return nil, e
		}
	}
	if len(lens) > n {
		return nil, api.ErrCode
	}
	return lens, api.OK
}

// repeat appends what a small symbol from 16 on stands for.
func (s *stream) repeat(symbol int, lens []int) ([]int, api.Errno) {
	length := 0
	if symbol == againSymbol {
		if len(lens) == 0 {
			return nil, api.ErrCode
		}
		length = lens[len(lens)-1]
	}
	kind := symbol - againSymbol
	more, e := s.in.Bits(timesBits[kind])
	if e != api.OK {
		return nil, e
	}
	return append(lens, repeated(length, leastTimes[kind]+more)...), api.OK
}
