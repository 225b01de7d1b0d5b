package huff_test

import (
	"math"
	"math/rand"
	"slices"
	"testing"

	"vitrine/api"
	"vitrine/huff"
)

const million = 1000000

func wantLimit(t *testing.T, most int, counts, want []int, e api.Errno) {
	t.Helper()
	got, gotE := huff.Limit(most, counts...)
	if gotE != e || !slices.Equal(got, want) {
		t.Errorf("Limit of %v, at most %d: %v, %v; not %v, %v", counts, most, got, gotE, want, e)
	}
}

// P2.3: lengths that were worked out by hand.
func TestLimit(t *testing.T) {
	for _, c := range []struct {
		most         int
		counts, want []int
	}{
		{15, []int{1, 1, 2, 4}, []int{3, 3, 2, 1}},
		{2, []int{1, 1, 2, 4}, []int{2, 2, 2, 2}},
		{3, []int{4, 0, 2, 1, 0, 1}, []int{1, 0, 2, 3, 0, 3}},
		{1, []int{5, 0, 7}, []int{1, 0, 1}},
		{15, []int{1, 1000 * million}, []int{1, 1}},
		{3, []int{1, 2, 4, 8, 16}, []int{3, 3, 3, 3, 1}},
		{4, []int{1, 2, 4, 8, 16}, []int{4, 4, 3, 2, 1}},
		{15, some(4, 7), some(4, 2)},
		{15, some(256, 1), some(256, 8)},
	} {
		wantLimit(t, c.most, c.counts, c.want, api.OK)
	}
}

// P2.3: no positive count at all, and one.
func TestLimitOfFew(t *testing.T) {
	for _, most := range []int{1, 2, 14, 15} {
		wantLimit(t, most, nil, nil, api.OK)
		wantLimit(t, most, []int{0}, []int{0}, api.OK)
		wantLimit(t, most, some(288, 0), some(288, 0), api.OK)
		wantLimit(t, most, []int{3}, []int{1}, api.OK)
		wantLimit(t, most, []int{0, 1000 * million, 0}, []int{0, 1, 0}, api.OK)
		wantLimit(t, most, append(some(287, 0), 1), append(some(287, 0), 1), api.OK)
	}
}

// P2.3: which of equal counts have the longer code words, and whether a coin or a pair of the same weight is ahead.
func TestLimitOfEqualCounts(t *testing.T) {
	wantLimit(t, 15, []int{1, 1, 1}, []int{2, 2, 1}, api.OK)
	wantLimit(t, 15, []int{1, 0, 1, 1, 1, 1}, []int{3, 0, 3, 2, 2, 2}, api.OK)
	// The coin of weight 2 ahead of the pair of weight 2: 2, 2, 2, 2, not 3, 3, 2, 1.
	wantLimit(t, 15, []int{1, 1, 2, 2}, []int{2, 2, 2, 2}, api.OK)
	wantLimit(t, 15, []int{2, 2, 1, 1}, []int{2, 2, 2, 2}, api.OK)
	wantLimit(t, 3, []int{1, 1, 2, 2}, []int{2, 2, 2, 2}, api.OK)
	wantLimit(t, 15, []int{3, 2, 3, 2, 3}, []int{2, 3, 2, 3, 2}, api.OK)
}

// P2.3: what may not be.
func TestLimitWrong(t *testing.T) {
	for _, most := range []int{0, 16, -1, 63, 64, math.MaxInt, math.MinInt} {
		wantLimit(t, most, nil, nil, api.ErrArg)
		wantLimit(t, most, []int{0}, nil, api.ErrArg)
		wantLimit(t, most, []int{1}, nil, api.ErrArg)
		wantLimit(t, most, []int{1, 1}, nil, api.ErrArg)
	}
	for _, n := range []int{-1, 1000*million + 1, math.MaxInt, math.MinInt} {
		wantLimit(t, 15, []int{n}, nil, api.ErrArg)
		wantLimit(t, 15, []int{1, 1, n}, nil, api.ErrArg)
		wantLimit(t, 15, []int{n, 0}, nil, api.ErrArg)
	}
	wantLimit(t, 15, some(289, 0), nil, api.ErrArg)
	wantLimit(t, 15, some(289, 1), nil, api.ErrArg)
	wantLimit(t, 15, append(some(288, 0), 1), nil, api.ErrArg)
}

// P2.3: as many positive counts as there are code words of the greatest length, and one more; zeros are no matter.
func TestLimitOfManyCounts(t *testing.T) {
	for most := 1; most <= 8; most++ {
		n := 1 << most
		wantLimit(t, most, some(n, 3), some(n, most), api.OK)
		wantLimit(t, most, append(some(n, 3), 0), append(some(n, most), 0), api.OK)
		wantLimit(t, most, some(n+1, 3), nil, api.ErrArg)
		wantLimit(t, most, slices.Concat(some(n, 3), some(1, 0), some(1, 1)), nil, api.ErrArg)
		uneven := append([]int{1000 * million}, some(n-1, 1)...)
		wantLimit(t, most, uneven, some(n, most), api.OK)
	}
	wantLimit(t, 8, append(some(256, 3), some(32, 0)...), append(some(256, 8), some(32, 0)...), api.OK)
	for most := 9; most <= 15; most++ {
		wantLimit(t, most, some(288, 1000*million), wantLens(most, some(288, 1000*million)), api.OK)
	}
}

// purse is an item of a row with all its coins, as the document words it.
type purse struct {
	weight int
	coins  []int
}

// wantLens is the lengths as the document words them: rows of items that list their coins.
func wantLens(most int, counts []int) []int {
	lens := make([]int, len(counts))
	var coins []purse
	for symbol, n := range counts {
		if n > 0 {
			coins = append(coins, purse{n, []int{symbol}})
		}
	}
	byWeight := func(a, b purse) int { return a.weight - b.weight }
	slices.SortStableFunc(coins, byWeight)
	if len(coins) == 1 {
		lens[coins[0].coins[0]] = 1
	}
	if len(coins) < 2 {
		return lens
	}
	row := coins
	for range most - 1 {
		next := slices.Clone(coins)
		for i := 0; i+1 < len(row); i += 2 {
			next = append(next, purse{row[i].weight + row[i+1].weight, slices.Concat(row[i].coins, row[i+1].coins)})
		}
		slices.SortStableFunc(next, byWeight)
		row = next
	}
	for _, it := range row[:2*len(coins)-2] {
		for _, symbol := range it.coins {
			lens[symbol]++
		}
	}
	return lens
}

// randomCounts is counts of one of several kinds: small ones, many of them equal, or of all sizes.
func randomCounts(rnd *rand.Rand, most int) []int {
	counts := make([]int, 1+rnd.Intn(most))
	kind := rnd.Intn(4)
	for i := range counts {
		switch kind {
		case 0:
			counts[i] = rnd.Intn(3)
		case 1:
			counts[i] = rnd.Intn(20)
		case 2:
			counts[i] = 1 << rnd.Intn(30)
		case 3:
			counts[i] = 1000*million - rnd.Intn(2)*rnd.Intn(1000*million)
		}
	}
	return counts
}

func positive(counts []int) int {
	n := 0
	for _, c := range counts {
		if c > 0 {
			n++
		}
	}
	return n
}

// P2.3, P2.4: counts of many kinds against the document's words; the lengths are complete or single.
func TestLimitByDefinition(t *testing.T) {
	rnd := rand.New(rand.NewSource(3))
	for range 600 {
		counts := randomCounts(rnd, 288)
		most := 1 + rnd.Intn(15)
		if positive(counts) > 1<<most {
			wantLimit(t, most, counts, nil, api.ErrArg)
			continue
		}
		wantLimit(t, most, counts, wantLens(most, counts), api.OK)
		lens, _ := huff.Limit(most, counts...)
		wantGoodLens(t, most, counts, lens)
	}
}

// wantGoodLens tells lengths that have too few or too many code words, or too long ones.
func wantGoodLens(t *testing.T, most int, counts, lens []int) {
	t.Helper()
	sum := 0
	for i, n := range lens {
		if (n > 0) != (counts[i] > 0) || n < 0 || n > most {
			t.Fatalf("%v, at most %d: length %d of symbol %d", counts, most, n, i)
		}
		if n > 0 {
			sum += 1 << (15 - n)
		}
	}
	want := 1 << 15
	switch positive(counts) {
	case 0:
		want = 0
	case 1:
		want = 1 << 14
	}
	if sum != want {
		t.Fatalf("%v, at most %d: %v is not complete", counts, most, lens)
	}
	if e := huff.Check(lens...); e != api.OK {
		t.Fatalf("%v, at most %d: Check of %v: %v", counts, most, lens, e)
	}
}

func cost(counts, lens []int) int {
	sum := 0
	for i, n := range lens {
		sum += n * counts[i]
	}
	return sum
}

// leastCost is the least cost of all complete lengths of at most most bits, found by trying them all.
func leastCost(most int, counts []int, room int) int {
	if len(counts) == 0 {
		if room == 0 {
			return 0
		}
		return math.MaxInt
	}
	least := math.MaxInt
	for n := 1; n <= most; n++ {
		if part := 1 << (most - n); part <= room {
			if rest := leastCost(most, counts[1:], room-part); rest < math.MaxInt {
				least = min(least, n*counts[0]+rest)
			}
		}
	}
	return least
}

// P2.4: no other lengths within the limit need fewer bits.
func TestLimitIsLeast(t *testing.T) {
	rnd := rand.New(rand.NewSource(4))
	for range 400 {
		most := 1 + rnd.Intn(5)
		counts := randomCounts(rnd, min(7, 1<<most))
		counts = slices.DeleteFunc(counts, func(n int) bool { return n == 0 })
		if len(counts) < 2 {
			continue
		}
		lens, e := huff.Limit(most, counts...)
		if least := leastCost(most, counts, 1<<most); e != api.OK || cost(counts, lens) != least {
			t.Errorf("%v, at most %d: %v, %v needs %d bits, not %d", counts, most, lens, e, cost(counts, lens), least)
		}
	}
}

// P2.3, P2.4: counts whose code words would be longer than 15 bits without a limit.
func TestLimitOfSteepCounts(t *testing.T) {
	counts := []int{1, 1}
	for n := 2; n <= 1000*million && len(counts) < 40; n = counts[len(counts)-1] + counts[len(counts)-2] {
		counts = append(counts, n)
	}
	for most := 6; most <= 15; most++ {
		wantLimit(t, most, counts, wantLens(most, counts), api.OK)
		lens, _ := huff.Limit(most, counts...)
		wantGoodLens(t, most, counts, lens)
		if slices.Max(lens) != most {
			t.Errorf("at most %d: the greatest length is %d", most, slices.Max(lens))
		}
	}
	short := counts[:16]
	lens, e := huff.Limit(15, short...)
	if want := []int{15, 15, 14, 13, 12, 11, 10, 9, 8, 7, 6, 5, 4, 3, 2, 1}; e != api.OK || !slices.Equal(lens, want) {
		t.Errorf("%v: %v, %v, not %v", short, lens, e, want)
	}
}

// R2: counts are not changed, and each result is memory of its own.
func TestLimitLeavesCounts(t *testing.T) {
	back := []int{4, 1, 2, 1, 9, 9}
	lens, _ := huff.Limit(15, back[:4]...)
	if !slices.Equal(back, []int{4, 1, 2, 1, 9, 9}) {
		t.Errorf("counts are changed: %v", back)
	}
	clear(lens)
	wantLimit(t, 15, back[:4], []int{1, 3, 2, 3}, api.OK)
}
