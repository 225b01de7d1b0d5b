package bands_test

import (
	"encoding/hex"
	"math"
	"slices"
	"strings"
	"testing"

	"vitrine/api"
	"vitrine/bands"
)

// bytesOf is the bytes of hexadecimal digits, between which there may be spaces.
func bytesOf(digits string) string {
	b, err := hex.DecodeString(strings.ReplaceAll(digits, " ", ""))
	if err != nil {
		panic(err)
	}
	return string(b)
}

// P15.1: the chapter's example, with hashes that another program has told.
func TestExampleOfChapter(t *testing.T) {
	r := api.Raster{W: 2, H: 9, Pix: strings.Repeat("a", 128) + strings.Repeat("b", 16)}
	manifest := bytesOf("00000002 00000009 6836cf13bac400e9105071cd6af47084dfacad4e5e302c94bfed24e013afb73e 2e61afd25d3ca76a0ee265dbc22ba5e9d844dc93ac5f2e37199a34fcbdcb5a52")
	wantCut(t, r, []string{strings.Repeat("a", 128), strings.Repeat("b", 16)}, manifest)
	if len(manifest) != 72 {
		t.Errorf("a manifest of %d bytes", len(manifest))
	}
	wantRead(t, manifest, 2, 9, []string{manifest[8:40], manifest[40:]}, api.OK)
	wantJoin(t, manifest, []string{strings.Repeat("a", 128), strings.Repeat("b", 16)}, r, api.OK)
}

// P15.1: one pixel, with a hash that another program has told.
func TestOnePixel(t *testing.T) {
	r := api.Raster{W: 1, H: 1, Pix: "abcdefgh"}
	wantCut(t, r, []string{"abcdefgh"}, bytesOf("00000001 00000001 9c56cc51b374c3ba189210d5b6d4bf57790d351c96c47c02190ecf1e430635ab"))
}

// P15.1: rasters of heights at which the number of bands changes, each row with bytes of its own.
func TestCutByHand(t *testing.T) {
	for _, c := range []struct {
		rows  string
		parts []string
	}{
		{"a", []string{"a"}},
		{"ab", []string{"ab"}},
		{"abcdefg", []string{"abcdefg"}},
		{"abcdefgh", []string{"abcdefgh"}},
		{"abcdefghi", []string{"abcdefgh", "i"}},
		{"abcdefghijklmno", []string{"abcdefgh", "ijklmno"}},
		{"abcdefghijklmnop", []string{"abcdefgh", "ijklmnop"}},
		{"abcdefghijklmnopq", []string{"abcdefgh", "ijklmnop", "q"}},
		{"aaaaaaaaaaaaaaaaa", []string{"aaaaaaaa", "aaaaaaaa", "a"}},
	} {
		var list []string
		manifest := "\x00\x00\x00\x01\x00\x00\x00" + string([]byte{byte(len(c.rows))})
		for _, part := range c.parts {
			band := column(part).Pix
			list = append(list, band)
			manifest += hash(band)
		}
		wantCut(t, column(c.rows), list, manifest)
	}
}

// P15.1: a raster's W counts for a band's bytes, and both sides are told by 4 bytes, the highest one first.
func TestSides(t *testing.T) {
	pix := noise(1, 32768)
	for _, c := range []struct {
		w, h  int
		sides string
		sizes []int
	}{
		{1024, 4, "00000400 00000004", []int{32768}},
		{4, 1024, "00000004 00000400", slices.Repeat([]int{256}, 128)},
		{512, 8, "00000200 00000008", []int{32768}},
		{256, 16, "00000100 00000010", []int{16384, 16384}},
		{255, 16, "000000ff 00000010", []int{16320, 16320}},
		{16, 256, "00000010 00000100", slices.Repeat([]int{1024}, 32)},
		{15, 257, "0000000f 00000101", append(slices.Repeat([]int{960}, 32), 120)},
		{64, 64, "00000040 00000040", slices.Repeat([]int{4096}, 8)},
		{1, 1024, "00000001 00000400", slices.Repeat([]int{64}, 128)},
		{1, 1023, "00000001 000003ff", append(slices.Repeat([]int{64}, 127), 56)},
		{1024, 1, "00000400 00000001", []int{8192}},
		{2, 17, "00000002 00000011", []int{128, 128, 16}},
		{3, 7, "00000003 00000007", []int{168}},
	} {
		r := api.Raster{W: c.w, H: c.h, Pix: pix[:8*c.w*c.h]}
		var list []string
		manifest, rest := bytesOf(c.sides), r.Pix
		for _, size := range c.sizes {
			list, rest = append(list, rest[:size]), rest[size:]
			manifest += hash(list[len(list)-1])
		}
		wantCut(t, r, list, manifest)
	}
}

// P15.1: each band and each hash stands at its place in the greatest heights; equal bands are there as often as they occur.
func TestPlaces(t *testing.T) {
	same := api.Raster{W: 4, H: 1024, Pix: strings.Repeat("x", 32768)}
	for _, r := range []api.Raster{rasterOf(1, 1024), rasterOf(4, 1024), rasterOf(4, 1023), rasterOf(3, 1017), same} {
		list, _ := bands.Cut(r)
		manifest, _ := bands.Manifest(r)
		if len(list) != 128 || len(manifest) != 8+32*128 || strings.Join(list, "") != r.Pix {
			t.Fatalf("%d by %d: %d bands, a manifest of %d bytes", r.W, r.H, len(list), len(manifest))
		}
		for i, band := range list {
			from, to := 64*r.W*i, min(64*r.W*(i+1), len(r.Pix))
			if band != r.Pix[from:to] {
				t.Errorf("%d by %d: band %d is %s", r.W, r.H, i, short(band))
			}
			if got := manifest[8+32*i : 40+32*i]; got != hash(r.Pix[from:to]) {
				t.Errorf("%d by %d: hash %d is %s", r.W, r.H, i, short(got))
			}
		}
	}
}

// P15.1: each height with some widths, and each width with some heights, against the chapter's words.
func TestCutSizes(t *testing.T) {
	for n := 1; n <= 1024; n++ {
		for _, m := range []int{1, 2, 7, 8, 9, 16, 17, 4096 / n} {
			if m > 0 && m <= 1024 && m*n <= 4096 && (m < 3 || n%11 == 0 || n < 40) {
				cutLikeModel(t, rasterOf(n, m))
				cutLikeModel(t, rasterOf(m, n))
			}
		}
	}
}

// P15.1: rasters that pixel.Check refuses, with the error of each.
func TestCutRefuses(t *testing.T) {
	pix := strings.Repeat("x", 32768)
	for _, c := range []struct {
		w, h  int
		bytes int
		want  api.Errno
	}{
		{0, 0, 0, api.ErrHead},
		{0, 1, 0, api.ErrHead},
		{1, 0, 0, api.ErrHead},
		{0, 8, 8, api.ErrHead},
		{-1, 1, 0, api.ErrHead},
		{1, -1, 0, api.ErrHead},
		{-1, -1, 8, api.ErrHead},
		{-8, -8, 512, api.ErrHead},
		{math.MinInt, math.MinInt, 0, api.ErrHead},
		{math.MinInt, 8, 0, api.ErrHead},
		{1, 1, 0, api.ErrHead},
		{1, 1, 7, api.ErrHead},
		{1, 1, 9, api.ErrHead},
		{1, 1, 16, api.ErrHead},
		{2, 9, 143, api.ErrHead},
		{2, 9, 145, api.ErrHead},
		{2, 9, 128, api.ErrHead},
		{2, 9, 256, api.ErrHead},
		{64, 64, 32767, api.ErrHead},
		{1024, 4, 0, api.ErrHead},
		{1, 1025, 8200, api.ErrBig},
		{1025, 1, 8200, api.ErrBig},
		{1025, 1, 0, api.ErrBig},
		{64, 65, 32768, api.ErrBig},
		{65, 64, 32768, api.ErrBig},
		{1024, 5, 32768, api.ErrBig},
		{1024, 1024, 0, api.ErrBig},
		{2147483647, 1, 0, api.ErrBig},
		{1, 2147483647, 0, api.ErrBig},
		{2147483647, 2147483647, 8, api.ErrBig},
		{2147483648, 1, 8, api.ErrHead},
		{1, 2147483648, 8, api.ErrHead},
		{4294967295, 4294967295, 8, api.ErrHead},
		{1 << 32, 1 << 32, 0, api.ErrHead},
		{1<<32 + 1, 1<<32 + 1, 8, api.ErrHead},
		{1 << 61, 1, 0, api.ErrHead},
		{math.MaxInt, math.MaxInt, 8, api.ErrHead},
		{1025, 0, 0, api.ErrHead},
		{2147483648, 1025, 0, api.ErrHead},
	} {
		r := api.Raster{W: c.w, H: c.h, Pix: pix[:c.bytes]}
		if e := checkModel(r); e != c.want {
			t.Fatalf("%s: %d", short(r), e)
		}
		wantRefused(t, r, c.want)
	}
}

// P15.1: right and wrong sides and numbers of bytes together.
func TestCutTogether(t *testing.T) {
	pix := noise(2, 70000)
	sides := []int{-4096, -8, -1, 0, 1, 2, 4, 7, 8, 9, 63, 64, 65, 1023, 1024, 1025, 4096, 2147483647, 2147483648, 4294967295, 4294967296, 4294967297, math.MinInt, math.MaxInt}
	right := 0
	for _, w := range sides {
		for _, h := range sides {
			sizes := []int{0, 1, 7, 8, 9, 64, 512, 32760, 32767, 32768, 32769}
			if area := w * h; area > 0 && area < 8000 {
				sizes = append(sizes, area, 4*area, 8*area-8, 8*area-1, 8*area, 8*area+1, 8*area+8)
			}
			for _, size := range sizes {
				r := api.Raster{W: w, H: h, Pix: pix[:size]}
				if e := checkModel(r); e != api.OK {
					wantRefused(t, r, e)
					continue
				}
				cutLikeModel(t, r)
				right++
			}
		}
	}
	if right < 50 {
		t.Errorf("only %d rasters are right", right)
	}
}
