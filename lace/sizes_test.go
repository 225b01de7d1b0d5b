package lace_test

import (
	"math"
	"testing"

	"vitrine/api"
)

// P10.2: rows that are worked out by hand: of just 8 bits or a multiple, of one more and one less where there are such, of one pixel more and one less.
func TestRowByHand(t *testing.T) {
	for _, x := range []struct{ colour, depth, pixels, want int }{
		{api.Grey, 1, 1, 1}, {api.Grey, 1, 7, 1}, {api.Grey, 1, 8, 1}, {api.Grey, 1, 9, 2}, {api.Grey, 1, 15, 2}, {api.Grey, 1, 16, 2}, {api.Grey, 1, 17, 3},
		{api.Grey, 1, 255, 32}, {api.Grey, 1, 256, 32}, {api.Grey, 1, 257, 33}, {api.Grey, 1, 1015, 127}, {api.Grey, 1, 1016, 127}, {api.Grey, 1, 1017, 128}, {api.Grey, 1, 1023, 128}, {api.Grey, 1, 1024, 128},
		{api.Grey, 2, 1, 1}, {api.Grey, 2, 3, 1}, {api.Grey, 2, 4, 1}, {api.Grey, 2, 5, 2}, {api.Grey, 2, 7, 2}, {api.Grey, 2, 8, 2}, {api.Grey, 2, 9, 3}, {api.Grey, 2, 1023, 256}, {api.Grey, 2, 1024, 256}, {api.Grey, 2, 1020, 255}, {api.Grey, 2, 1021, 256},
		{api.Grey, 4, 1, 1}, {api.Grey, 4, 2, 1}, {api.Grey, 4, 3, 2}, {api.Grey, 4, 4, 2}, {api.Grey, 4, 5, 3}, {api.Grey, 4, 1023, 512}, {api.Grey, 4, 1022, 511}, {api.Grey, 4, 1024, 512},
		{api.Grey, 8, 1, 1}, {api.Grey, 8, 2, 2}, {api.Grey, 8, 1023, 1023}, {api.Grey, 8, 1024, 1024}, {api.Grey, 16, 1, 2}, {api.Grey, 16, 3, 6}, {api.Grey, 16, 1023, 2046}, {api.Grey, 16, 1024, 2048},
		{api.RGB, 8, 1, 3}, {api.RGB, 8, 5, 15}, {api.RGB, 8, 1024, 3072}, {api.RGB, 16, 1, 6}, {api.RGB, 16, 7, 42}, {api.RGB, 16, 1024, 6144},
		{api.Palette, 1, 1, 1}, {api.Palette, 1, 7, 1}, {api.Palette, 1, 8, 1}, {api.Palette, 1, 9, 2}, {api.Palette, 2, 3, 1}, {api.Palette, 2, 4, 1}, {api.Palette, 2, 5, 2}, {api.Palette, 4, 1, 1}, {api.Palette, 4, 2, 1}, {api.Palette, 4, 3, 2}, {api.Palette, 8, 1, 1}, {api.Palette, 8, 1024, 1024},
		{api.GreyA, 8, 1, 2}, {api.GreyA, 8, 9, 18}, {api.GreyA, 8, 1024, 2048}, {api.GreyA, 16, 1, 4}, {api.GreyA, 16, 9, 36}, {api.GreyA, 16, 1024, 4096},
		{api.RGBA, 8, 1, 4}, {api.RGBA, 8, 9, 36}, {api.RGBA, 8, 1024, 4096}, {api.RGBA, 16, 1, 8}, {api.RGBA, 16, 9, 72}, {api.RGBA, 16, 1023, 8184}, {api.RGBA, 16, 1024, 8192},
	} {
		wantRow(t, api.Head{W: 1, H: 1, Depth: x.depth, Colour: x.colour}, x.pixels, x.want)
	}
}

// P10.2: rows of each number of pixels, in each format.
func TestAllRows(t *testing.T) {
	for _, f := range formats() {
		h := f.head(3, 3, 0)
		for pixels := -20; pixels <= 1050; pixels++ {
			wantRow(t, h, pixels, rowModel(h, pixels))
		}
	}
}

// P10.2: no bytes for numbers of pixels below 1 and above 1024.
func TestRowWithoutPixels(t *testing.T) {
	for _, f := range formats() {
		for _, pixels := range []int{-1, 0, 1025, -8, -1024, -1025, 1032, 2048, 4096, 65537, 1<<31 + 1, 1<<32 + 1, 1<<32 + 1024, 1<<61 + 1, math.MinInt, math.MinInt + 1, math.MinInt32, math.MaxInt, math.MaxInt32} {
			wantRow(t, f.head(1, 1, 0), pixels, 0)
			wantRow(t, f.head(1024, 4, 1), pixels, 0)
		}
	}
}

// P10.2: a row may have other pixels than the image; its size and passes make no difference.
func TestRowOfOtherImages(t *testing.T) {
	for _, f := range formats() {
		for _, size := range [][2]int{{1, 1}, {5, 1}, {1, 5}, {17, 17}, {64, 64}, {1024, 4}, {4, 1024}} {
			for _, pixels := range []int{-1, 0, 1, 4, 5, 6, 7, 8, 9, 1023, 1024, 1025} {
				wantRow(t, f.head(size[0], size[1], 0), pixels, rowModel(f.head(1, 1, 0), pixels))
				wantRow(t, f.head(size[0], size[1], 1), pixels, rowModel(f.head(1, 1, 0), pixels))
			}
		}
	}
}

// P10.2: sizes that are worked out by hand.
func TestSizeByHand(t *testing.T) {
	for _, x := range []struct {
		head api.Head
		want int
	}{
		{api.Head{W: 1, H: 1, Depth: 1, Colour: api.Grey}, 2},
		{api.Head{W: 1, H: 1, Depth: 1, Colour: api.Grey, Lace: 1}, 2},
		{api.Head{W: 1, H: 1, Depth: 16, Colour: api.RGBA, Lace: 1}, 9},
		{api.Head{W: 3, H: 2, Depth: 8, Colour: api.RGB}, 2 * (1 + 9)},
		{api.Head{W: 3, H: 2, Depth: 8, Colour: api.RGB, Lace: 1}, (1 + 3) + (1 + 3) + (1 + 3) + (1 + 9)},
		{api.Head{W: 5, H: 1, Depth: 8, Colour: api.Palette, Lace: 1}, 2 + 2 + 2 + 3},
		{api.Head{W: 5, H: 1, Depth: 8, Colour: api.Palette}, 6},
		{api.Head{W: 1, H: 5, Depth: 8, Colour: api.Palette, Lace: 1}, 2 + 2 + 2 + 2*2},
		{api.Head{W: 1, H: 5, Depth: 8, Colour: api.Palette}, 5 * 2},
		{api.Head{W: 8, H: 8, Depth: 8, Colour: api.Grey, Lace: 1}, 2 + 2 + 3 + 2*3 + 2*5 + 4*5 + 4*9},
		{api.Head{W: 8, H: 8, Depth: 8, Colour: api.Grey}, 8 * 9},
		{api.Head{W: 8, H: 8, Depth: 1, Colour: api.Grey, Lace: 1}, 2 + 2 + 2 + 2*2 + 2*2 + 4*2 + 4*2},
		{api.Head{W: 17, H: 9, Depth: 1, Colour: api.Palette, Lace: 1}, 2*2 + 2*2 + 2 + 3*2 + 2*3 + 5*2 + 4*4},
		{api.Head{W: 17, H: 9, Depth: 1, Colour: api.Palette}, 9 * 4},
		{api.Head{W: 1024, H: 4, Depth: 16, Colour: api.RGBA}, 4 * 8193},
		{api.Head{W: 4, H: 1024, Depth: 16, Colour: api.RGBA}, 1024 * 33},
		{api.Head{W: 4, H: 1024, Depth: 16, Colour: api.RGBA, Lace: 1}, 128*9 + 128*9 + 256*9 + 256*17 + 512*17 + 512*33},
		{api.Head{W: 64, H: 64, Depth: 16, Colour: api.RGBA, Lace: 1}, 8*65 + 8*65 + 8*129 + 16*129 + 16*257 + 32*257 + 32*513},
		{api.Head{W: 1023, H: 4, Depth: 1, Colour: api.Grey}, 4 * 129},
		{api.Head{W: 1017, H: 1, Depth: 1, Colour: api.Grey}, 129},
		{api.Head{W: 1016, H: 1, Depth: 1, Colour: api.Grey}, 128},
	} {
		wantSize(t, x.head, x.want)
	}
}

// P10.2: where each pixel has whole bytes, an image has the bytes of its pixels, and one for each row of each pass.
func TestSizeOfWholeBytes(t *testing.T) {
	for _, size := range sizes() {
		w, h := size[0], size[1]
		wantSize(t, api.Head{W: w, H: h, Depth: 8, Colour: api.GreyA}, h*(1+2*w))
		rows := 0
		for _, p := range passesModel(grey(w, h, 1)) {
			rows += p.H
		}
		wantSize(t, api.Head{W: w, H: h, Depth: 8, Colour: api.GreyA, Lace: 1}, rows+2*w*h)
	}
}
