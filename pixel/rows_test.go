package pixel_test

import (
	"math/rand"
	"strings"
	"testing"

	"vitrine/api"
	"vitrine/pixel"
)

// P12.3: rasters and their data, worked out by hand.
func TestRowsByHand(t *testing.T) {
	zeros := strings.Repeat("\x00", 8)
	ones := strings.Repeat("\x01", 8)
	for _, c := range []struct {
		w, h int
		pix  string
		want string
	}{
		{1, 1, zeros, "\x00" + zeros},
		{1, 1, "abcdefgh", "\x00abcdefgh"},
		{1, 1, "\xff\x80\x7f\x00\x01\xfe\x81\x10", "\x00\xff\x80\x7f\x00\x01\xfe\x81\x10"},
		{2, 1, "abcdefghabcdefgh", "\x01abcdefgh" + zeros},
		{2, 1, "abcdefghbcdefghi", "\x01abcdefgh" + ones},
		{1, 2, "abcdefghabcdefgh", "\x00abcdefgh" + "\x02" + zeros},
		{1, 2, "abcdefghbcdefghi", "\x00abcdefgh" + "\x02" + ones},
		{1, 3, "abcdefgh" + zeros + "abcdefgh", "\x00abcdefgh" + "\x00" + zeros + "\x00abcdefgh"},
		{2, 2, strings.Repeat("abcdefgh", 4), "\x01abcdefgh" + zeros + "\x02" + zeros + zeros},
		// Type 3: 10 is the half of 0 and 20, and 15 that of 10 and 20.
		{2, 2, strings.Repeat("\x14", 16) + strings.Repeat("\x0a", 8) + strings.Repeat("\x0f", 8), "\x01" + strings.Repeat("\x14", 8) + zeros + "\x03" + zeros + zeros},
		// Types 2 and 4 are as good as each other.
		{2, 2, strings.Repeat("\x1e", 8) + strings.Repeat("\x32", 8) + strings.Repeat("\x1e", 8) + strings.Repeat("\x32", 8), "\x01" + strings.Repeat("\x1e", 8) + strings.Repeat("\x14", 8) + "\x02" + zeros + zeros},
	} {
		r := api.Raster{W: c.w, H: c.h, Pix: c.pix}
		wantRows(t, r, c.want, api.OK)
		rowsLikeModel(t, r)
	}
}

// P12.3: of several types that are as good as each other the smallest one is taken, and each type is that of some row.
func TestTypesOfRows(t *testing.T) {
	flat := func(list ...byte) string {
		pix := ""
		for _, b := range list {
			pix += strings.Repeat(string([]byte{b}), 8)
		}
		return pix
	}
	for _, c := range []struct {
		w    int
		pix  string
		want int // of the second row
	}{
		{2, flat(0, 0, 0, 0), 0},
		{2, flat(5, 9, 0, 0), 0},
		{2, flat(200, 3, 9, 9), 1},
		{2, flat(100, 10, 50, 50), 3},
		{2, flat(40, 90, 40, 90), 2},
		{2, flat(20, 20, 10, 15), 3},
		{3, flat(10, 60, 60, 12, 62, 62), 4},
		{3, flat(10, 10, 90, 50, 50, 90), 4},
		{1, flat(7, 7), 2},
		{1, flat(7, 0), 0},
		{1, flat(14, 7), 3},
	} {
		r := api.Raster{W: c.w, H: 2, Pix: c.pix}
		rowsLikeModel(t, r)
		if data, _ := pixel.Rows(r); len(data) <= 1+8*c.w || int(data[1+8*c.w]) != c.want {
			t.Errorf("Rows(%s) is %s, without the type %d", short(r), short(data), c.want)
		}
	}
}

// contents are pixels of different kinds: flat ones, steps, steps with something above, noise.
func contents(rnd *rand.Rand, w, h int) []string {
	list := []string{strings.Repeat("\x00", 8*w*h), strings.Repeat("\xff", 8*w*h), noise(w*h, 8*w*h)}
	for range 3 {
		b := make([]byte, 8*w*h)
		spread, slope, fall := 1+rnd.Intn(40), rnd.Intn(9), rnd.Intn(9)
		for i := range b {
			b[i] = byte(i/8%w*slope + i/8/w*fall + rnd.Intn(spread))
		}
		list = append(list, string(b))
	}
	return list
}

// P12.3: rasters of each small size and of the greatest ones, with contents of different kinds.
func TestRowsLikeModel(t *testing.T) {
	rnd := rand.New(rand.NewSource(124))
	sizes := [][2]int{{64, 64}, {1024, 4}, {4, 1024}, {1024, 1}, {1, 1024}, {63, 65}}
	for w := 1; w <= 9; w++ {
		for h := 1; h <= 9; h++ {
			sizes = append(sizes, [2]int{w, h})
		}
	}
	seen := [5]int{}
	for _, size := range sizes {
		for _, pix := range contents(rnd, size[0], size[1]) {
			r := api.Raster{W: size[0], H: size[1], Pix: pix}
			rowsLikeModel(t, r)
			data, _ := rowsModel(r)
			for at := 0; at < len(data); at += 1 + 8*r.W {
				seen[data[at]]++
			}
		}
	}
	for kind, n := range seen {
		if n < 50 {
			t.Errorf("type %d is picked only %d times", kind, n)
		}
	}
}

// P12.3: the first row has no row above: the type of filter is picked without one, also where a raster ahead had the same rows.
func TestFirstRow(t *testing.T) {
	r := api.Raster{W: 1, H: 1, Pix: "abcdefgh"}
	for range 3 {
		wantRows(t, r, "\x00abcdefgh", api.OK)
	}
}
