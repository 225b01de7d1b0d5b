package filter_test

import (
	"math/rand"
	"slices"
	"strings"
	"testing"

	"vitrine/api"
)

// P9.2: rows with the sums of all types, worked out by hand, of which each type has the smallest sum now and then.
func TestPickByHand(t *testing.T) {
	for _, x := range []struct {
		bpp         int
		line, above string
		sums        []int
		kind        int
	}{
		{1, text(0, 5, 0, 5), text(64, 64, 64, 64), []int{10, 15, 246, 120, 79}, 0},
		{1, text(255, 1, 255, 1), text(9, 9, 9, 9), []int{4, 7, 36, 261, 16}, 0},
		{1, text(200, 200, 0), "", []int{112, 112, 112, 256, 112}, 0},
		{1, text(1, 90, 1, 90), "", []int{182, 268, 182, 225, 268}, 0},
		{2, text(1, 90, 1, 90), "", []int{182, 91, 182, 137, 91}, 1},
		{1, text(9, 9, 9, 9), "", []int{36, 9, 36, 24, 9}, 1},
		{1, text(9, 9), text(100, 200), []int{18, 9, 156, 136, 182}, 1},
		{1, text(1, 200), text(1, 200), []int{57, 58, 0, 101, 0}, 2},
		{1, text(90, 10), text(90, 11), []int{100, 170, 1, 85, 1}, 2},
		{1, text(50, 75), text(100, 100), []int{125, 75, 75, 0, 75}, 3},
		{1, text(60, 60, 60, 100), text(50, 50, 50, 90), []int{280, 100, 40, 70, 20}, 4},
	} {
		if sums := sumsModel(x.bpp, x.line, x.above); !slices.Equal(sums, x.sums) {
			t.Errorf("the model says %v, not %v: [% X], [% X]", sums, x.sums, x.line, x.above)
		}
		wantPick(t, x.bpp, x.line, x.above, x.kind, api.OK)
	}
}

// P9.2: bytes of 127, 128 and 129, which count as 127, 128 and 127. The sums of types 0, 2 and 3 are told; type 1 has that of type 0, and type 4 that of type 2.
func TestPickMiddle(t *testing.T) {
	for _, x := range []struct{ line, above, kind int }{
		{127, 0, 0},   // 127 each
		{128, 0, 0},   // 128 each
		{129, 0, 0},   // 127 each
		{128, 1, 2},   // 128, 127, 128
		{129, 1, 0},   // 127, 128, 127
		{128, 255, 3}, // 128, 127, 1
		{127, 255, 3}, // 127, 128, 0
		{127, 254, 3}, // 127, 127, 0
		{129, 2, 0},   // 127, 127, 128
		{130, 1, 0},   // 126, 127, 126
		{130, 255, 3}, // 126, 125, 3
		{128, 254, 3}, // 128, 126, 1
		{128, 2, 2},   // 128, 126, 127
		{0, 128, 0},   // 0, 128, 64
		{1, 130, 0},   // 1, 127, 64
		{255, 127, 0}, // 1, 128, 64
		{255, 126, 0}, // 1, 127, 64
	} {
		wantPick(t, 1, text(x.line), text(x.above), x.kind, api.OK)
	}
}

// P9.2: all rows of one byte, with each byte above and with none.
func TestPickOneByte(t *testing.T) {
	for x := range 256 {
		for above := range 256 {
			wantPick(t, 1, text(x), text(above), pickModel(1, text(x), text(above)), api.OK)
		}
		wantPick(t, 1, text(x), "", 0, api.OK)
	}
}

// P9.2: rows in which several types have the smallest sum; each pair of types occurs as the first two of them.
func TestPickTies(t *testing.T) {
	rnd := rand.New(rand.NewSource(91))
	seen := map[[2]int]int{}
	for range 200000 {
		bpp, n := 1+rnd.Intn(2), 1+rnd.Intn(4)
		line, above := make([]int, n), make([]int, n)
		for i := range line {
			line[i], above[i] = rnd.Intn(12)-6, rnd.Intn(12)-6
		}
		sums := sumsModel(bpp, text(line...), text(above...))
		least := slices.Min(sums)
		first := slices.Index(sums, least)
		if second := slices.Index(sums[first+1:], least); second >= 0 {
			seen[[2]int{first, first + 1 + second}]++
		}
		wantPick(t, bpp, text(line...), text(above...), first, api.OK)
	}
	for a := range 5 {
		for b := a + 1; b < 5; b++ {
			if seen[[2]int{a, b}] == 0 {
				t.Errorf("no row has types %d and %d as the first ones with the smallest sum", a, b)
			}
		}
	}
}

// P9.2: rows whose sums are beyond 8 and 16 bits.
func TestPickLong(t *testing.T) {
	zeros := strings.Repeat("\x00", 512)
	wantPick(t, 1, text(128, 128), "", 1, api.OK)                                            // 256 and 128
	wantPick(t, 1, strings.Repeat("\x80", 512), "", 1, api.OK)                               // 65536 and 128
	wantPick(t, 1, strings.Repeat("\x80", 512), zeros, 1, api.OK)                            // the same
	wantPick(t, 1, zeros, strings.Repeat("\x80", 512), 0, api.OK)                            // 0
	wantPick(t, 1, strings.Repeat("\x80\x00", 1024), "", 0, api.OK)                          // 131072 and twice as much
	wantPick(t, 2, strings.Repeat("\x80\x00", 1024), "", 1, api.OK)                          // 131072 and 128
	wantPick(t, 1, noise(1, 100000), noise(1, 100000), 2, api.OK)                            // 0
	wantPick(t, 1, noise(1, 70000)+"\x01", noise(1, 70000)+"\x00", 2, api.OK)                // 1
	wantPick(t, 8, noise(1, 8), noise(2, 8), pickModel(8, noise(1, 8), noise(2, 8)), api.OK) // but one pixel
	for seed := range 10 {
		line, above := noise(seed, 8192), noise(seed+1, 8192)
		for bpp := 1; bpp <= 8; bpp++ {
			wantPick(t, bpp, line, above, pickModel(bpp, line, above), api.OK)
		}
	}
}
