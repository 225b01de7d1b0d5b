package bands_test

import (
	"math/rand"
	"slices"
	"strings"
	"testing"

	"vitrine/api"
)

// madeOf is a manifest of these sides for a list of bands, whether or not they are a raster's.
func madeOf(w, h uint32, list ...string) string {
	manifest := side(w) + side(h)
	for _, band := range list {
		manifest += hash(band)
	}
	return manifest
}

// P15.3: rasters that are written out.
func TestJoinByHand(t *testing.T) {
	wantJoin(t, madeOf(1, 1, "abcdefgh"), []string{"abcdefgh"}, api.Raster{W: 1, H: 1, Pix: "abcdefgh"}, api.OK)
	wantJoin(t, madeOf(2, 1, "abcdefghABCDEFGH"), []string{"abcdefghABCDEFGH"}, api.Raster{W: 2, H: 1, Pix: "abcdefghABCDEFGH"}, api.OK)
	wantJoin(t, madeOf(1, 2, "abcdefghABCDEFGH"), []string{"abcdefghABCDEFGH"}, api.Raster{W: 1, H: 2, Pix: "abcdefghABCDEFGH"}, api.OK)
	x, y := strings.Repeat("x", 64), strings.Repeat("y", 8)
	wantJoin(t, madeOf(1, 9, x, y), []string{x, y}, api.Raster{W: 1, H: 9, Pix: x + y}, api.OK)
	wantJoin(t, madeOf(1, 16, x, x), []string{x, x}, api.Raster{W: 1, H: 16, Pix: x + x}, api.OK)
	wantJoin(t, bytesOf("00000001 00000001 9c56cc51b374c3ba189210d5b6d4bf57790d351c96c47c02190ecf1e430635ab"), []string{"abcdefgh"}, api.Raster{W: 1, H: 1, Pix: "abcdefgh"}, api.OK)
	wantNoBands(t, madeOf(1, 1, "abcdefgh"))
	wantNoBands(t, madeOf(1, 1, "abcdefgh"), "")
	wantNoBands(t, madeOf(1, 1, "abcdefgh"), "abcdefgH")
	wantNoBands(t, madeOf(1, 9, x, y), y, x)
	wantNoBands(t, madeOf(1, 9, x, y), x+y)
	wantNoBands(t, madeOf(1, 9, x, y), x, y, "")
}

// P15.3, P15.4: the manifest and the bands of rasters of each height, and of each width.
func TestJoinIsTheRaster(t *testing.T) {
	for n := 1; n <= 1024; n++ {
		for _, m := range []int{1, 2, 3, 4, 7, 8, 9, 16, 17, 64, 4096 / n} {
			if m > 0 && m <= 1024 && m*n <= 4096 && (m < 2 || n%13 == 0 || n < 20) {
				for _, r := range []api.Raster{rasterOf(n, m), rasterOf(m, n)} {
					wantJoin(t, manifestModel(r), cutModel(r), r, api.OK)
				}
			}
		}
	}
}

// P15.3: each error of Read, whatever the bands: the right ones, too few, too many, wrong ones.
func TestJoinErrorsOfRead(t *testing.T) {
	for _, r := range []api.Raster{rasterOf(1, 1), rasterOf(2, 9), rasterOf(4, 1024)} {
		manifest, list := manifestModel(r), cutModel(r)
		wrong := slices.Clone(list)
		wrong[0] = turned(wrong[0], 0)
		for _, bad := range []string{"", manifest[:7], manifest[:8], manifest[:len(manifest)-1], manifest[:len(manifest)-32], manifest + "x", manifest + manifest[8:40], manifest[1:], side(0) + manifest[4:], side(1025) + manifest[4:], side(2147483648) + manifest[4:], side(4294967295) + manifest[4:], manifest[:4] + side(0) + manifest[8:], manifest[:4] + side(1025) + manifest[8:], manifest[:4] + side(2147483648) + manifest[8:], manifest[:4] + side(4294967295) + manifest[8:], side(1024) + side(1024) + manifest[8:]} {
			wantNoManifest(t, bad)
			for _, given := range [][]string{list, list[1:], wrong, append(slices.Clone(list), "")} {
				wantJoin(t, bad, given, api.Raster{}, api.ErrManifest)
			}
		}
		wantJoin(t, manifest, list, r, api.OK)
	}
}

// P15.3: a band fewer at each place, a band more at each place, none, and many.
func TestJoinNumbers(t *testing.T) {
	for _, h := range []int{1, 7, 8, 9, 16, 17, 25, 1024} {
		for _, r := range []api.Raster{rasterOf(2, h), {W: 1, H: h, Pix: strings.Repeat("s", 8*h)}} {
			manifest, list := manifestModel(r), cutModel(r)
			wantJoin(t, manifest, list, r, api.OK)
			wantNoBands(t, manifest)
			wantNoBands(t, manifest, []string{}...)
			for at := range list {
				wantNoBands(t, manifest, slices.Delete(slices.Clone(list), at, at+1)...)
				wantNoBands(t, manifest, list[:at]...)
				wantNoBands(t, manifest, slices.Insert(slices.Clone(list), at, list[at])...)
			}
			for _, more := range []string{"", "x", list[0], list[len(list)-1], strings.Repeat("m", 128)} {
				wantNoBands(t, manifest, append(slices.Clone(list), more)...)
				wantNoBands(t, manifest, slices.Insert(slices.Clone(list), 0, more)...)
			}
			wantNoBands(t, manifest, slices.Concat(list, list)...)
			wantNoBands(t, manifest, append(slices.Clone(list), make([]string, 256)...)...)
			wantNoBands(t, manifest, append(slices.Clone(list), make([]string, 65536)...)...)
		}
	}
}

// P15.3: each band a byte shorter or longer, at its beginning and at its end, and empty.
func TestJoinLengths(t *testing.T) {
	for _, h := range []int{1, 7, 8, 9, 16, 17, 1024} {
		r := rasterOf(3, h)
		manifest, list := manifestModel(r), cutModel(r)
		for at, band := range list {
			n := len(band)
			for _, other := range []string{"", band[1:], band[:n-1], band + "x", "x" + band, band + "\x00", "\x00" + band, band + band, band[:n/2], band[8:], band + "12345678", band[n-1:] + band, band + band[:1]} {
				given := slices.Clone(list)
				given[at] = other
				wantNoBands(t, manifest, given...)
			}
		}
	}
}

// P15.3: bands that have the hashes of the manifest, but not the lengths of the bands of such a raster.
func TestJoinLengthsOfRightHashes(t *testing.T) {
	text := noise(4, 2000)
	for _, c := range []struct {
		w, h  uint32
		sizes []int
		want  api.Errno
	}{
		{1, 1, []int{8}, api.OK},
		{1, 1, []int{7}, api.ErrBand},
		{1, 1, []int{9}, api.ErrBand},
		{1, 1, []int{0}, api.ErrBand},
		{1, 1, []int{16}, api.ErrBand},
		{1, 1, []int{64}, api.ErrBand},
		{1, 8, []int{64}, api.OK},
		{1, 8, []int{63}, api.ErrBand},
		{1, 8, []int{65}, api.ErrBand},
		{1, 8, []int{8}, api.ErrBand},
		{2, 7, []int{112}, api.OK},
		{2, 7, []int{128}, api.ErrBand},
		{2, 7, []int{56}, api.ErrBand},
		{1, 9, []int{64, 8}, api.OK},
		{1, 9, []int{8, 64}, api.ErrBand},
		{1, 9, []int{63, 9}, api.ErrBand},
		{1, 9, []int{65, 7}, api.ErrBand},
		{1, 9, []int{72, 0}, api.ErrBand},
		{1, 9, []int{0, 72}, api.ErrBand},
		{1, 9, []int{64, 64}, api.ErrBand},
		{1, 9, []int{64, 7}, api.ErrBand},
		{1, 9, []int{64, 9}, api.ErrBand},
		{1, 9, []int{64, 0}, api.ErrBand},
		{1, 9, []int{63, 8}, api.ErrBand},
		{1, 9, []int{36, 36}, api.ErrBand},
		{1, 16, []int{64, 64}, api.OK},
		{1, 16, []int{63, 65}, api.ErrBand},
		{1, 16, []int{65, 63}, api.ErrBand},
		{1, 16, []int{56, 72}, api.ErrBand},
		{1, 16, []int{64, 0}, api.ErrBand},
		{2, 17, []int{128, 128, 16}, api.OK},
		{2, 17, []int{16, 128, 128}, api.ErrBand},
		{2, 17, []int{128, 16, 128}, api.ErrBand},
		{2, 17, []int{128, 129, 15}, api.ErrBand},
		{2, 17, []int{127, 129, 16}, api.ErrBand},
		{2, 17, []int{128, 128, 128}, api.ErrBand},
		{2, 17, []int{136, 136, 0}, api.ErrBand},
		{2, 17, []int{64, 64, 8}, api.ErrBand},
	} {
		var list []string
		rest := text
		for _, size := range c.sizes {
			list, rest = append(list, rest[:size]), rest[size:]
		}
		manifest := madeOf(c.w, c.h, list...)
		if _, e := joinModel(manifest, list); e != c.want {
			t.Fatalf("%d by %d, %d: %d", c.w, c.h, c.sizes, e)
		}
		joinLikeModel(t, manifest, list)
	}
}

// P15.3: bands of the right length that differ in one bit, each bit of each band, and each bit of the manifest.
func TestJoinEachBit(t *testing.T) {
	for _, h := range []int{1, 8, 9, 17} {
		r := rasterOf(1, h)
		manifest, list := manifestModel(r), cutModel(r)
		for at, band := range list {
			for bit := range 8 * len(band) {
				given := slices.Clone(list)
				given[at] = turned(band, bit)
				wantNoBands(t, manifest, given...)
			}
		}
		for bit := range 8 * len(manifest) {
			joinLikeModel(t, turned(manifest, bit), list)
			if bit >= 64 {
				wantNoBands(t, turned(manifest, bit), list...)
			}
		}
	}
	r := rasterOf(4, 1024)
	manifest, list := manifestModel(r), cutModel(r)
	for at, band := range list {
		for _, bit := range []int{0, 7, 1000, 8*len(band) - 1} {
			given := slices.Clone(list)
			given[at] = turned(band, bit)
			wantNoBands(t, manifest, given...)
		}
	}
}

// P15.3: each two bands in each other's place; if they are equal, nothing is different.
func TestJoinOrder(t *testing.T) {
	for _, r := range []api.Raster{rasterOf(1, 16), rasterOf(2, 17), rasterOf(3, 80), column("aaaaaaaabbbbbbbbaaaaaaaacccccccca"), column("aaaaaaaaaaaaaaaaa")} {
		manifest, list := manifestModel(r), cutModel(r)
		for i := range list {
			for j := range i {
				given := slices.Clone(list)
				given[i], given[j] = given[j], given[i]
				joinLikeModel(t, manifest, given)
				if list[i] == list[j] {
					wantJoin(t, manifest, given, r, api.OK)
				} else {
					wantNoBands(t, manifest, given...)
				}
				given[j] = given[i]
				joinLikeModel(t, manifest, given)
			}
		}
		given := slices.Clone(list)
		slices.Reverse(given)
		joinLikeModel(t, manifest, given)
		joinLikeModel(t, manifest, slices.Concat(list[1:], list[:1]))
	}
}

// P15.3: sides that are others, with hashes and bands that are right for themselves.
func TestJoinOtherSides(t *testing.T) {
	for _, r := range []api.Raster{rasterOf(4, 8), rasterOf(8, 4), rasterOf(2, 16), rasterOf(4, 16), rasterOf(1, 9)} {
		manifest, list := manifestModel(r), cutModel(r)
		for w := range 70 {
			for h := range 70 {
				joinLikeModel(t, side(uint32(w))+side(uint32(h))+manifest[8:], list)
			}
		}
	}
	same := strings.Repeat("abcdefgh", 4)
	wantJoin(t, madeOf(4, 1, same), []string{same}, api.Raster{W: 4, H: 1, Pix: same}, api.OK)
	wantJoin(t, madeOf(2, 2, same), []string{same}, api.Raster{W: 2, H: 2, Pix: same}, api.OK)
	wantJoin(t, madeOf(1, 4, same), []string{same}, api.Raster{W: 1, H: 4, Pix: same}, api.OK)
	wantNoBands(t, madeOf(3, 1, same), same)
	wantNoBands(t, madeOf(4, 2, same), same)
}

// P15.3: where several errors apply, that of the manifest is ahead of those of the bands.
func TestJoinSeveralErrors(t *testing.T) {
	r := rasterOf(2, 17)
	manifest, list := manifestModel(r), cutModel(r)
	manifests := []string{manifest, "", manifest[:7], manifest[:len(manifest)-1], manifest + "x", side(0) + manifest[4:], side(1025) + manifest[4:], turned(manifest, 64), turned(manifest, 8*len(manifest)-1)}
	lists := [][]string{list, nil, list[:2], append(slices.Clone(list), ""), {list[1], list[0], list[2]}, {list[0], list[1], list[2] + "x"}, {turned(list[0], 5), list[1], list[2] + "x"}, {turned(list[0], 5), list[1]}, {list[0] + "x", turned(list[1], 9)}, {"", "", ""}, {"", "", "", ""}, {list[2], list[1], list[0], list[0]}}
	for i, m := range manifests {
		for j, given := range lists {
			switch {
			case i == 0 && j == 0:
				wantJoin(t, m, given, r, api.OK)
			case i > 0 && i < 7:
				wantJoin(t, m, given, api.Raster{}, api.ErrManifest)
			default:
				wantNoBands(t, m, given...)
			}
		}
	}
}

// P15.3: manifests and bands that are damaged at random, against the chapter's words.
func TestJoinRandom(t *testing.T) {
	rnd := rand.New(rand.NewSource(153))
	for range 4000 {
		r := rasterOf(1+rnd.Intn(6), 1+rnd.Intn(40))
		manifest, list := manifestModel(r), cutModel(r)
		joinLikeModel(t, manifest, list)
		for range 1 + rnd.Intn(2) {
			list = damaged(rnd, list)
		}
		if rnd.Intn(3) == 0 {
			manifest = turned(manifest, rnd.Intn(8*len(manifest)))
		}
		if rnd.Intn(3) == 0 {
			manifest = madeOf(uint32(1+rnd.Intn(6)), uint32(1+rnd.Intn(40)), list...)
		}
		joinLikeModel(t, manifest, list)
	}
}

// damaged is a list with another band, another order or another number of bands.
func damaged(rnd *rand.Rand, list []string) []string {
	list = slices.Clone(list)
	if len(list) == 0 {
		return []string{noise(1, 64)}
	}
	i, j := rnd.Intn(len(list)), rnd.Intn(len(list))
	band := list[i]
	switch rnd.Intn(8) {
	case 0:
		list[i], list[j] = list[j], list[i]
	case 1:
		list = slices.Delete(list, i, i+1)
	case 2:
		list = slices.Insert(list, i, list[j])
	case 3:
		list[i] = band[:rnd.Intn(len(band)+1)]
	case 4:
		list[i] += noise(i, rnd.Intn(9))
	case 5:
		list[i] = list[j]
	case 6:
		if band != "" {
			list[i] = turned(band, rnd.Intn(8*len(band)))
		}
	}
	return list
}
