package lace_test

import (
	"fmt"
	"math"
	"math/big"
	"slices"
	"strings"
	"testing"

	"vitrine/api"
	"vitrine/lace"
)

// The passes, as the chapter tells them: X, Y, DX and DY.
var (
	interlaced    = list("0 0 8 8, 4 0 8 8, 0 4 4 8, 2 0 4 4, 0 2 2 4, 1 0 2 2, 0 1 1 2")
	notInterlaced = list("0 0 1 1")
)

// list is passes from their X, Y, DX, DY, W and H; or from the first four of these, without W and H.
func list(text string) []api.Pass {
	var passes []api.Pass
	for _, part := range strings.Split(text, ",") {
		var p api.Pass
		fmt.Sscan(part, &p.X, &p.Y, &p.DX, &p.DY, &p.W, &p.H)
		passes = append(passes, p)
	}
	return passes
}

// format is a colour type and one of its depths, and how many bits a pixel has.
type format struct{ colour, depth, bits int }

// formats are all that there are.
func formats() []format {
	return []format{
		{api.Grey, 1, 1}, {api.Grey, 2, 2}, {api.Grey, 4, 4}, {api.Grey, 8, 8}, {api.Grey, 16, 16},
		{api.RGB, 8, 24}, {api.RGB, 16, 48},
		{api.Palette, 1, 1}, {api.Palette, 2, 2}, {api.Palette, 4, 4}, {api.Palette, 8, 8},
		{api.GreyA, 8, 16}, {api.GreyA, 16, 32},
		{api.RGBA, 8, 32}, {api.RGBA, 16, 64},
	}
}

// head is a header of a format.
func (f format) head(w, h, lace int) api.Head {
	return api.Head{W: w, H: h, Depth: f.depth, Colour: f.colour, Lace: lace}
}

// bitsOf is how many bits a pixel has, or 0 if there is no such format.
func bitsOf(h api.Head) int {
	for _, f := range formats() {
		if f.colour == h.Colour && f.depth == h.Depth {
			return f.bits
		}
	}
	return 0
}

// grey is a header of an image with 8 bits a pixel.
func grey(w, h, lace int) api.Head { return api.Head{W: w, H: h, Depth: 8, Lace: lace} }

// far are numbers whose lowest bytes are those of a small one, and the ends of the kinds of integers.
func far(n int) []int {
	return []int{n + 1<<8, n - 1<<8, n + 1<<16, n + 1<<31, n + 1<<32, n - 1<<32, n + 1<<40, math.MinInt + n, math.MaxInt - n, math.MinInt32 + n, math.MaxInt32 - n}
}

// sizes are all widths and heights that an image can have.
func sizes() [][2]int {
	var all [][2]int
	for w := 1; w <= 1024; w++ {
		for h := 1; h <= 1024 && w*h <= 4096; h++ {
			all = append(all, [2]int{w, h})
		}
	}
	return all
}

// isRight tells whether a header is one for which head.Right returns OK, in the words of its chapter.
func isRight(h api.Head) bool {
	area := new(big.Int).Mul(big.NewInt(int64(h.W)), big.NewInt(int64(h.H)))
	return h.W >= 1 && h.H >= 1 && h.W <= 1024 && h.H <= 1024 && area.Cmp(big.NewInt(4096)) <= 0 && bitsOf(h) > 0 && (h.Lace == 0 || h.Lace == 1)
}

// lines is how many of the columns or rows within a side are first, first + step, first + 2 step, ..
func lines(side, first, step int) int {
	n := 0
	for at := first; at < side; at += step {
		n++
	}
	return n
}

// passesModel is P10.1 in the chapter's words.
func passesModel(h api.Head) []api.Pass {
	if !isRight(h) {
		return nil
	}
	all := notInterlaced
	if h.Lace == 1 {
		all = interlaced
	}
	var passes []api.Pass
	for _, p := range all {
		p.W, p.H = lines(h.W, p.X, p.DX), lines(h.H, p.Y, p.DY)
		if p.W != 0 && p.H != 0 {
			passes = append(passes, p)
		}
	}
	return passes
}

// rowModel is the first part of P10.2 in the chapter's words.
func rowModel(h api.Head, pixels int) int {
	if !isRight(h) || pixels < 1 || pixels > 1024 {
		return 0
	}
	bits := bitsOf(h) * pixels
	whole, rest := bits/8, bits%8
	if rest > 0 {
		return whole + 1
	}
	return whole
}

// sizeModel is the second part of P10.2 in the chapter's words.
func sizeModel(h api.Head) int {
	size := 0
	for _, p := range passesModel(h) {
		size += p.H + p.H*rowModel(h, p.W)
	}
	return size
}

// wantPasses holds the passes of a header against those that are wanted.
func wantPasses(t *testing.T, h api.Head, want []api.Pass) {
	t.Helper()
	if got := lace.Passes(h); !slices.Equal(got, want) {
		t.Errorf("Passes(%+v) is %v, not %v", h, got, want)
	}
}

// wantRow holds the bytes of a row against those that are wanted.
func wantRow(t *testing.T, h api.Head, pixels, want int) {
	t.Helper()
	if got := lace.Row(h, pixels); got != want {
		t.Errorf("Row(%+v, %d) is %d, not %d", h, pixels, got, want)
	}
}

// wantSize holds the size of an image against the one that is wanted.
func wantSize(t *testing.T, h api.Head, want int) {
	t.Helper()
	if got := lace.Size(h); got != want {
		t.Errorf("Size(%+v) is %d, not %d", h, got, want)
	}
}

// wantModel holds Passes, Row and Size of a header against the models.
func wantModel(t *testing.T, h api.Head) {
	t.Helper()
	wantPasses(t, h, passesModel(h))
	wantRow(t, h, 5, rowModel(h, 5))
	wantSize(t, h, sizeModel(h))
}

// wantNothing wants that a header has no passes, no rows and no size.
func wantNothing(t *testing.T, h api.Head) {
	t.Helper()
	wantPasses(t, h, nil)
	for _, pixels := range []int{h.W, -1, 0, 1, 8, 9, 1023, 1024, 1025} {
		wantRow(t, h, pixels, 0)
	}
	wantSize(t, h, 0)
}
