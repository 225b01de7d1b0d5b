package pixel_test

import (
	"math"
	"strings"
	"testing"

	"vitrine/api"
)

// P12.1: rasters at the edges, with the error of each.
func TestCheckByHand(t *testing.T) {
	one := "12345678"
	most := strings.Repeat("x", 32768)
	for _, c := range []struct {
		w, h int
		pix  string
		want api.Errno
	}{
		{1, 1, one, api.OK},
		{1, 1, "", api.ErrHead},
		{1, 1, one[1:], api.ErrHead},
		{1, 1, one + "9", api.ErrHead},
		{1, 1, one + one, api.ErrHead},
		{2, 1, one + one, api.OK},
		{1, 2, one + one, api.OK},
		{2, 1, one, api.ErrHead},
		{2, 2, one + one, api.ErrHead},
		{64, 64, most, api.OK},
		{1024, 4, most, api.OK},
		{4, 1024, most, api.OK},
		{64, 64, most[1:], api.ErrHead},
		{64, 64, most + "x", api.ErrHead},
		{64, 64, "", api.ErrHead},
		{1024, 1, most[:8192], api.OK},
		{1, 1024, most[:8192], api.OK},
		{0, 0, "", api.ErrHead},
		{0, 1, "", api.ErrHead},
		{1, 0, "", api.ErrHead},
		{-1, 1, "", api.ErrHead},
		{1, -1, "", api.ErrHead},
		{-1, -1, one, api.ErrHead},
		{-2, -4, strings.Repeat(one, 8), api.ErrHead},
		{1025, 1, most[:8200], api.ErrBig},
		{1, 1025, most[:8200], api.ErrBig},
		{1025, 1, "", api.ErrBig},
		{64, 65, most + most[:512], api.ErrBig},
		{65, 64, most + most[:512], api.ErrBig},
		{1024, 5, most, api.ErrBig},
		{1024, 1024, "", api.ErrBig},
		{2147483647, 1, "", api.ErrBig},
		{1, 2147483647, "", api.ErrBig},
		{2147483647, 2147483647, "", api.ErrBig},
		{2147483648, 1, "", api.ErrHead},
		{1, 2147483648, "", api.ErrHead},
		{2147483648, 2147483648, "", api.ErrHead},
		{1 << 32, 1 << 32, "", api.ErrHead},
		{1<<32 + 1, 1, one, api.ErrHead},
		{math.MaxInt, math.MaxInt, one, api.ErrHead},
		{math.MinInt, math.MinInt, "", api.ErrHead},
	} {
		wantCheck(t, api.Raster{W: c.w, H: c.h, Pix: c.pix}, c.want)
	}
}

// P12.1: where several errors apply, a side that is no side of a header is ahead of one that is too great, and both are ahead of the size of Pix.
func TestCheckOrder(t *testing.T) {
	for _, pix := range []string{"", "1234567", "12345678", "123456789"} {
		for _, none := range []int{-1, 0, 2147483648, math.MinInt, math.MaxInt} {
			for _, side := range []int{-1, 0, 1, 1024, 1025, 2147483647, 2147483648} {
				wantCheck(t, api.Raster{W: none, H: side, Pix: pix}, api.ErrHead)
				wantCheck(t, api.Raster{W: side, H: none, Pix: pix}, api.ErrHead)
			}
		}
		for _, big := range []int{1025, 2147483647} {
			for _, side := range []int{1, 1024, 1025, 2147483647} {
				wantCheck(t, api.Raster{W: big, H: side, Pix: pix}, api.ErrBig)
				wantCheck(t, api.Raster{W: side, H: big, Pix: pix}, api.ErrBig)
			}
		}
		wantCheck(t, api.Raster{W: 64, H: 65, Pix: pix}, api.ErrBig)
	}
}

// P12.1: each side at an edge with each other one, and sizes of Pix near to what is right, and near to what other numbers of bytes a pixel would need.
func TestCheckSides(t *testing.T) {
	sides := []int{-4096, -1025, -8, -2, -1, 0, 1, 2, 3, 4, 5, 63, 64, 65, 512, 1023, 1024, 1025, 2048, 4096, 4097, 2147483646, 2147483647, 2147483648, 4294967295}
	sides = append(append(sides, far(0)...), far(1)...)
	bytes := strings.Repeat("p", 100000)
	for _, w := range sides {
		for _, h := range sides {
			sizes := []int{0, 1, 7, 8, 9, 32767, 32768, 32769}
			if area := w * h; area > 0 && area < 5000 {
				sizes = append(sizes, area, 4*area, 8*area-8, 8*area-1, 8*area, 8*area+1, 8*area+8, 16*area)
			}
			for _, size := range sizes {
				r := api.Raster{W: w, H: h, Pix: bytes[:size]}
				wantCheck(t, r, checkModel(r))
			}
		}
	}
}

// P12.1: all widths and heights that an image can have are right with just their bytes.
func TestCheckSizes(t *testing.T) {
	bytes := strings.Repeat("p", 32776)
	for w := 1; w <= 1024; w++ {
		for h := 1; h <= 1024 && w*h <= 4096; h++ {
			if w > 8 && h > 8 && (w+h)%7 != 0 {
				continue
			}
			wantCheckOnly(t, api.Raster{W: w, H: h, Pix: bytes[:8*w*h]}, api.OK)
			wantCheckOnly(t, api.Raster{W: w, H: h, Pix: bytes[:8*w*h-1]}, api.ErrHead)
			wantCheckOnly(t, api.Raster{W: w, H: h, Pix: bytes[:8*w*h+1]}, api.ErrHead)
		}
	}
}
