package huff

import (
	"cmp"
	"slices"

	"vitrine/api"
)

const mostCount = 1000000000

// coin is a symbol that occurs.
type coin struct {
	symbol, count int
}

// item is a coin or a pair of a row. The coins of a row are in their order, and so are its pairs: their number tells which these are.
type item struct {
	weight int
	pair   bool
}

// Limit is lengths of at most most bits, for symbols that occur so often.
func Limit(most int, counts ...int) ([]int, api.Errno) {
	if most < 1 || most > mostLen || len(counts) > mostSymbols {
		return nil, api.ErrArg
	}
	for _, n := range counts {
		if n < 0 || n > mostCount {
			return nil, api.ErrArg
		}
	}
	coins := coinsOf(counts)
	if len(coins) > 1<<most {
		return nil, api.ErrArg
	}
	lens := make([]int, len(counts))
	switch len(coins) {
	case 0:
	case 1:
		lens[coins[0].symbol] = 1
	default:
		countCoins(lens, coins, rowsOf(most, coins))
	}
	return lens, api.OK
}

// coinsOf is the symbols that occur, the rarest one first.
func coinsOf(counts []int) []coin {
	var coins []coin
	for symbol, n := range counts {
		if n > 0 {
			coins = append(coins, coin{symbol, n})
		}
	}
	slices.SortStableFunc(coins, func(a, b coin) int { return cmp.Compare(a.count, b.count) })
	return coins
}

// rowsOf is so many rows, each made from the one before it.
func rowsOf(most int, coins []coin) [][]item {
	rows := [][]item{merge(coins, nil)}
	for len(rows) < most {
		rows = append(rows, merge(coins, pairs(rows[len(rows)-1])))
	}
	return rows
}

// pairs is the weights of the pairs of a row.
func pairs(row []item) []int {
	weights := make([]int, len(row)/2)
	for i := range weights {
		weights[i] = row[2*i].weight + row[2*i+1].weight
	}
	return weights
}

// merge is the row of coins and of pairs of these weights; both are ordered by weight.
func merge(coins []coin, pairs []int) []item {
	row := make([]item, 0, len(coins)+len(pairs))
	for _, c := range coins {
		for len(pairs) > 0 && pairs[0] < c.count {
			row = append(row, item{pairs[0], true})
			pairs = pairs[1:]
		}
		row = append(row, item{c.count, false})
	}
	for _, weight := range pairs {
		row = append(row, item{weight, true})
	}
	return row
}

// countCoins adds to each length how often the coin of its symbol is in the first items of the last row that make up all lengths.
// The pairs among the first items of a row consist of the first items of the row before it, twice as many: no item needs to list its coins.
func countCoins(lens []int, coins []coin, rows [][]item) {
	first := 2*len(coins) - 2
	for _, row := range slices.Backward(rows) {
		taken := 0
		for _, it := range row[:first] {
			if !it.pair {
				lens[coins[taken].symbol]++
				taken++
			}
		}
		first = 2 * (first - taken)
	}
}
