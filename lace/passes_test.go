package lace_test

import (
	"testing"

	"vitrine/api"
)

// P10.1, P10.2: the examples of the document.
func TestExamples(t *testing.T) {
	wantPasses(t, grey(1, 1, 1), []api.Pass{{X: 0, Y: 0, DX: 8, DY: 8, W: 1, H: 1}})
	wantPasses(t, grey(5, 1, 1), []api.Pass{{X: 0, Y: 0, DX: 8, DY: 8, W: 1, H: 1}, {X: 4, Y: 0, DX: 8, DY: 8, W: 1, H: 1}, {X: 2, Y: 0, DX: 4, DY: 4, W: 1, H: 1}, {X: 1, Y: 0, DX: 2, DY: 2, W: 2, H: 1}})
	wantRow(t, api.Head{W: 1, H: 1, Depth: 1, Colour: api.Grey}, 9, 2)
	wantSize(t, api.Head{W: 3, H: 2, Depth: 8, Colour: api.RGB}, 20)
}

// P10.1: passes of interlaced images that are worked out by hand.
func TestInterlaced(t *testing.T) {
	for _, x := range []struct {
		w, h   int
		passes string
	}{
		{1, 1, "0 0 8 8 1 1"},
		{2, 1, "0 0 8 8 1 1, 1 0 2 2 1 1"},
		{1, 2, "0 0 8 8 1 1, 0 1 1 2 1 1"},
		{2, 2, "0 0 8 8 1 1, 1 0 2 2 1 1, 0 1 1 2 2 1"},
		{3, 1, "0 0 8 8 1 1, 2 0 4 4 1 1, 1 0 2 2 1 1"},
		{1, 3, "0 0 8 8 1 1, 0 2 2 4 1 1, 0 1 1 2 1 1"},
		{3, 3, "0 0 8 8 1 1, 2 0 4 4 1 1, 0 2 2 4 2 1, 1 0 2 2 1 2, 0 1 1 2 3 1"},
		{4, 4, "0 0 8 8 1 1, 2 0 4 4 1 1, 0 2 2 4 2 1, 1 0 2 2 2 2, 0 1 1 2 4 2"},
		{5, 1, "0 0 8 8 1 1, 4 0 8 8 1 1, 2 0 4 4 1 1, 1 0 2 2 2 1"},
		{1, 5, "0 0 8 8 1 1, 0 4 4 8 1 1, 0 2 2 4 1 1, 0 1 1 2 1 2"},
		{5, 5, "0 0 8 8 1 1, 4 0 8 8 1 1, 0 4 4 8 2 1, 2 0 4 4 1 2, 0 2 2 4 3 1, 1 0 2 2 2 3, 0 1 1 2 5 2"},
		{4, 5, "0 0 8 8 1 1, 0 4 4 8 1 1, 2 0 4 4 1 2, 0 2 2 4 2 1, 1 0 2 2 2 3, 0 1 1 2 4 2"},
		{8, 8, "0 0 8 8 1 1, 4 0 8 8 1 1, 0 4 4 8 2 1, 2 0 4 4 2 2, 0 2 2 4 4 2, 1 0 2 2 4 4, 0 1 1 2 8 4"},
		{9, 9, "0 0 8 8 2 2, 4 0 8 8 1 2, 0 4 4 8 3 1, 2 0 4 4 2 3, 0 2 2 4 5 2, 1 0 2 2 4 5, 0 1 1 2 9 4"},
		{9, 1, "0 0 8 8 2 1, 4 0 8 8 1 1, 2 0 4 4 2 1, 1 0 2 2 4 1"},
		{64, 64, "0 0 8 8 8 8, 4 0 8 8 8 8, 0 4 4 8 16 8, 2 0 4 4 16 16, 0 2 2 4 32 16, 1 0 2 2 32 32, 0 1 1 2 64 32"},
		{1024, 4, "0 0 8 8 128 1, 4 0 8 8 128 1, 2 0 4 4 256 1, 0 2 2 4 512 1, 1 0 2 2 512 2, 0 1 1 2 1024 2"},
		{4, 1024, "0 0 8 8 1 128, 0 4 4 8 1 128, 2 0 4 4 1 256, 0 2 2 4 2 256, 1 0 2 2 2 512, 0 1 1 2 4 512"},
		{1023, 1, "0 0 8 8 128 1, 4 0 8 8 128 1, 2 0 4 4 256 1, 1 0 2 2 511 1"},
		{1, 1023, "0 0 8 8 1 128, 0 4 4 8 1 128, 0 2 2 4 1 256, 0 1 1 2 1 511"},
	} {
		wantPasses(t, grey(x.w, x.h, 1), list(x.passes))
	}
}

// P10.1: an image that is not interlaced has one pass, with all pixels.
func TestNotInterlaced(t *testing.T) {
	for _, size := range sizes() {
		w, h := size[0], size[1]
		wantPasses(t, grey(w, h, 0), []api.Pass{{X: 0, Y: 0, DX: 1, DY: 1, W: w, H: h}})
	}
}

// P10.1, P10.2: each width and height from 1 to 17, where passes have no columns or no rows, in each format.
func TestSmallSizes(t *testing.T) {
	seen := [8]int{}
	for w := 1; w <= 17; w++ {
		for h := 1; h <= 17; h++ {
			seen[len(passesModel(grey(w, h, 1)))]++
			for _, f := range formats() {
				wantModel(t, f.head(w, h, 0))
				wantModel(t, f.head(w, h, 1))
			}
		}
	}
	for n, times := range seen {
		if n > 0 && times == 0 {
			t.Errorf("no size with %d passes", n)
		}
	}
}

// P10.1, P10.2: all sizes that an image can have.
func TestAllSizes(t *testing.T) {
	for _, size := range sizes() {
		for _, f := range []format{{api.Grey, 1, 1}, {api.RGB, 8, 24}} {
			wantModel(t, f.head(size[0], size[1], 0))
			wantModel(t, f.head(size[0], size[1], 1))
		}
	}
}

// P10.1: the passes are the same in each format.
func TestPassesOfFormats(t *testing.T) {
	want := list("0 0 8 8 2 2, 4 0 8 8 1 2, 0 4 4 8 3 1, 2 0 4 4 3 3, 0 2 2 4 6 3, 1 0 2 2 6 6, 0 1 1 2 12 5")
	for _, f := range formats() {
		wantPasses(t, f.head(12, 11, 1), want)
		wantPasses(t, f.head(12, 11, 0), list("0 0 1 1 12 11"))
	}
}
