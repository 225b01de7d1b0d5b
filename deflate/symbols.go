package deflate

import "vitrine/api"

const (
	endSymbol     = 256 // ends a block
	longestSymbol = 285 // the last length symbol
	lastDistance  = 29  // the last distance symbol

	leastLen   = 3
	longestLen = 258
	lenGroup   = 4 // so many length symbols in a row have the same number of extra bits
	distGroup  = 2
)

// coded is a symbol and the number in the extra bits behind it.
type coded struct {
	symbol int
	more   int // the number
	extra  int // how many bits it has
}

// symbolOf is the literal or length symbol of a token.
func symbolOf(token api.Token) coded {
	switch token.Len {
	case 0:
		return coded{symbol: token.Byte}
	case longestLen:
		// The symbol ahead of it covers this length as well, with extra bits.
		return coded{symbol: longestSymbol}
	}
	c := covering(token.Len-leastLen, lenGroup)
	c.symbol += endSymbol + 1
	return c
}

// distanceOf is the distance symbol of a match.
func distanceOf(match api.Token) coded { return covering(match.Dist-1, distGroup) }

// covering is the symbol that covers a value; both are counted from the least one.
// Two groups of symbols have no extra bits, and each further group has one bit more than the group before it:
// so it begins where the values have one binary digit more, and the highest digits tell the symbol.
func covering(value, group int) coded {
	extra := 0
	for value>>extra >= 2*group {
		extra++
	}
	return coded{
		symbol: group*extra + value>>extra,
		more:   value & (1<<extra - 1),
		extra:  extra,
	}
}

// count is how often each literal or length symbol and each distance symbol occurs in a block of tokens.
func count(tokens []api.Token) (symbols, distances []int) {
	symbols = make([]int, longestSymbol+1)
	distances = make([]int, lastDistance+1)
	for _, token := range tokens {
		symbols[symbolOf(token).symbol]++
		if token.Len > 0 {
			distances[distanceOf(token).symbol]++
		}
	}
	symbols[endSymbol]++
	return symbols, distances
}
