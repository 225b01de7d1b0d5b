package pixel_test

import (
	"math"
	"slices"
	"strings"
	"testing"

	"vitrine/api"
)

// P12.2: a header that is refused, for each of its reasons, whatever the data.
func TestWrongHeads(t *testing.T) {
	for _, c := range []struct {
		h    api.Head
		want api.Errno
	}{
		{api.Head{}, api.ErrHead},
		{api.Head{W: 0, H: 1, Depth: 8}, api.ErrHead},
		{api.Head{W: 1, H: 0, Depth: 8}, api.ErrHead},
		{api.Head{W: -1, H: 1, Depth: 8}, api.ErrHead},
		{api.Head{W: 1, H: -1, Depth: 8}, api.ErrHead},
		{api.Head{W: -1, H: -1, Depth: 8}, api.ErrHead},
		{api.Head{W: 2147483648, H: 1, Depth: 8}, api.ErrHead},
		{api.Head{W: 1, H: 2147483648, Depth: 8}, api.ErrHead},
		{api.Head{W: math.MinInt, H: math.MinInt, Depth: 8}, api.ErrHead},
		{api.Head{W: 1<<32 + 1, H: 1<<32 + 1, Depth: 8}, api.ErrHead},
		{api.Head{W: 1, H: 1, Depth: 8, Colour: 1}, api.ErrHead},
		{api.Head{W: 1, H: 1, Depth: 8, Colour: 5}, api.ErrHead},
		{api.Head{W: 1, H: 1, Depth: 8, Colour: 7}, api.ErrHead},
		{api.Head{W: 1, H: 1, Depth: 8, Colour: -1}, api.ErrHead},
		{api.Head{W: 1, H: 1, Depth: 0}, api.ErrHead},
		{api.Head{W: 1, H: 1, Depth: 3}, api.ErrHead},
		{api.Head{W: 1, H: 1, Depth: 32}, api.ErrHead},
		{api.Head{W: 1, H: 1, Depth: 4, Colour: api.RGB}, api.ErrHead},
		{api.Head{W: 1, H: 1, Depth: 16, Colour: api.Palette}, api.ErrHead},
		{api.Head{W: 1, H: 1, Depth: 1, Colour: api.GreyA}, api.ErrHead},
		{api.Head{W: 1, H: 1, Depth: 2, Colour: api.RGBA}, api.ErrHead},
		{api.Head{W: 1, H: 1, Depth: 8, Lace: 2}, api.ErrHead},
		{api.Head{W: 1, H: 1, Depth: 8, Lace: -1}, api.ErrHead},
		{api.Head{W: 1025, H: 1, Depth: 8}, api.ErrBig},
		{api.Head{W: 1, H: 1025, Depth: 8}, api.ErrBig},
		{api.Head{W: 64, H: 65, Depth: 8}, api.ErrBig},
		{api.Head{W: 2147483647, H: 2147483647, Depth: 8, Lace: 1}, api.ErrBig},
		{api.Head{W: 1025, H: 1, Depth: 8, Lace: 2}, api.ErrHead},
		{api.Head{W: 1025, H: 0, Depth: 8}, api.ErrHead},
		{api.Head{W: 64, H: 65, Depth: 3}, api.ErrHead},
	} {
		if e := headModel(c.h); e != c.want {
			t.Fatalf("%+v: %d", c.h, e)
		}
		for _, raw := range []string{"", "\x00", "\x00\x80", "\x05\x80", "\x00\x80\x00", strings.Repeat("\x00", 1026), strings.Repeat("\x05", 65*65)} {
			wantError(t, api.Shape{Head: c.h}, raw, c.want)
			wantError(t, api.Shape{Head: c.h, Palette: "abc", Trans: "x", HasTrans: true}, raw, c.want)
		}
	}
}

// P12.2: right and wrong values of all fields of a header together, with data that is right but for them.
func TestHeadsTogether(t *testing.T) {
	raw := strings.Repeat("\x00", 65*9)
	for _, w := range slices.Concat([]int{-1, 0, 1, 8, 1024, 1025}, far(1)) {
		for _, h := range []int{-1, 0, 1, 4, 5, 1025, 2147483647, 2147483648} {
			for colour := -1; colour < 8; colour++ {
				for _, depth := range []int{-8, 0, 1, 2, 3, 4, 8, 16, 17, 264} {
					for lace := -1; lace < 3; lace++ {
						s := withPalette(format{colour, depth, 0}.bare(w, h, lace), "abc")
						if headModel(s.Head) != api.OK {
							imageLikeModel(t, s, raw)
							imageLikeModel(t, s, "")
							continue
						}
						if size := sizeOf(s.Head); size <= len(raw) {
							imageLikeModel(t, s, raw[:size])
						}
					}
				}
			}
		}
	}
}

// bare is a shape of this format without a palette, which may be wrong.
func (f format) bare(w, h, lace int) api.Shape {
	return api.Shape{Head: api.Head{W: w, H: h, Depth: f.depth, Colour: f.colour, Lace: lace}}
}

// P12.2: data that is shorter or longer than that of the image, of each length near to it.
func TestSizesOfData(t *testing.T) {
	for _, f := range formats() {
		for _, size := range [][2]int{{1, 1}, {2, 1}, {1, 2}, {5, 1}, {3, 2}, {9, 9}, {64, 64}} {
			for _, lace := range []int{0, 1} {
				s := f.shape(size[0], size[1], lace)
				whole := sizeOf(s.Head)
				for _, n := range []int{0, 1, whole / 2, whole - 2, whole - 1} {
					if n >= 0 && n < whole {
						wantError(t, s, strings.Repeat("\x00", n), api.ErrShort)
						wantError(t, s, strings.Repeat("\xff", n), api.ErrShort)
					}
				}
				for _, n := range []int{whole + 1, whole + 2, 2 * whole, whole + 65536} {
					wantError(t, s, strings.Repeat("\x00", n), api.ErrLong)
					wantError(t, s, strings.Repeat("\xff", n), api.ErrLong)
				}
				imageLikeModel(t, s, strings.Repeat("\x00", whole))
			}
		}
	}
	wantError(t, grey(1, 1, 0), "", api.ErrShort)
	wantError(t, grey(1, 1, 0), "\x00", api.ErrShort)
	wantError(t, grey(1, 1, 0), "\x00\x80x", api.ErrLong)
	wantPix(t, grey(1, 1, 0), "\x00\x80", greys(0x80))
}

// P12.2: an image has as many bytes as the passes of its own kind, interlaced or not.
func TestSizesOfPasses(t *testing.T) {
	wantError(t, grey(3, 2, 1), strings.Repeat("\x00", 8), api.ErrShort)
	wantError(t, grey(3, 2, 0), strings.Repeat("\x00", 10), api.ErrLong)
	wantPix(t, grey(3, 2, 0), strings.Repeat("\x00", 8), greys(0, 0, 0, 0, 0, 0))
	wantPix(t, grey(3, 2, 1), strings.Repeat("\x00", 10), greys(0, 0, 0, 0, 0, 0))
}

// P12.2: each byte as the type of filter of each row: of the first one, of a later one, of one of a later pass.
func TestTypesOfFilters(t *testing.T) {
	for _, lace := range []int{0, 1} {
		for _, f := range []format{{api.Grey, 8, 1}, {api.Grey, 1, 1}, {api.RGBA, 16, 4}, {api.Palette, 4, 1}} {
			s := f.shape(5, 6, lace)
			raw := withKinds(s.Head, noise(f.depth, sizeOf(s.Head)), mixed)
			for _, at := range starts(s.Head) {
				for kind := range 256 {
					data := raw[:at] + string([]byte{byte(kind)}) + raw[at+1:]
					if kind > 4 {
						wantError(t, s, data, api.ErrFilter)
					} else {
						imageLikeModel(t, s, data)
					}
				}
			}
		}
	}
}

// P12.2: a place that the palette does not have is ErrIndex, in each row and column; the last place that it has is not.
func TestPlacesOfPalettes(t *testing.T) {
	for _, depth := range []int{1, 2, 4, 8} {
		for _, lace := range []int{0, 1} {
			f := format{api.Palette, depth, 1}
			for _, colours := range []int{1, 1<<depth - 1} {
				s := f.shape(6, 7, lace)
				s.Palette = s.Palette[:3*colours]
				for at := range 42 {
					p := picture{shape: s, samples: slices.Repeat([][]int{{0}}, 42)}
					p.samples[at] = []int{colours - 1}
					wantImage(t, s, p.data(mixed), p.raster(), api.OK)
					p.samples[at] = []int{colours}
					wantError(t, s, p.data(mixed), api.ErrIndex)
					wantError(t, withTrans(s, "\x01\x02\x03"), p.data(mixed), api.ErrIndex)
					wantError(t, withPalette(s, s.Palette+"ab"), p.data(mixed), api.ErrIndex)
					more := withPalette(s, s.Palette+"abc")
					wantImage(t, more, p.data(mixed), picture{more, p.samples}.raster(), api.OK)
				}
			}
		}
	}
	wantError(t, format{api.Palette, 8, 1}.bare(1, 1, 0), "\x00\x00", api.ErrIndex)
}

// P12.2: bits behind the last sample of a row are no place of a palette.
func TestBitsAreNoPlaces(t *testing.T) {
	s := withPalette(format{api.Palette, 1, 1}.shape(3, 1, 0), "abc")
	wantPix(t, s, "\x00\x1f", strings.Repeat("aabbcc\xff\xff", 3))
	wantError(t, s, "\x00\x20", api.ErrIndex)
	wantError(t, s, "\x00\x80", api.ErrIndex)
}

// P12.2: a wrong type of filter in a row and a wrong place in a row, each row with each: the one of the row that is ahead is returned, of the same row the filter.
func TestFilterAndIndex(t *testing.T) {
	for _, lace := range []int{0, 1} {
		s := withPalette(format{api.Palette, 8, 1}.shape(6, 7, lace), "abc")
		rows := rowsOf(s.Head)
		for wrong := range rows {
			for place, r := range rows {
				for _, at := range [][2]int{r.at[0], r.at[len(r.at)-1]} {
					p := picture{shape: s, samples: slices.Repeat([][]int{{0}}, 42)}
					p.samples[6*at[1]+at[0]] = []int{1}
					kinds := func(n int) int {
						if n == wrong {
							return 5 + 250*(n%2)
						}
						return 0
					}
					want := api.ErrIndex
					if wrong <= place {
						want = api.ErrFilter
					}
					wantError(t, s, withKinds(s.Head, p.data(all(0)), kinds), want)
				}
			}
		}
	}
}

// P12.2: each pair of errors: the header's is ahead of the size's, and this of those of the rows.
func TestOrderOfErrors(t *testing.T) {
	s := withPalette(format{api.Palette, 8, 1}.shape(1, 2, 0), "abc")
	for _, c := range []struct {
		raw  string
		want api.Errno
	}{
		{"\x00\x00\x00\x00", api.OK},
		{"\x05\x00\x00", api.ErrShort},
		{"\x00\x01\x00", api.ErrShort},
		{"\x05\x01\x00\x00\x00", api.ErrLong},
		{"\x00\x01\x00\x00\x00", api.ErrLong},
		{"\x00\x01\x00\x00\x05", api.ErrLong},
		{"\x05\x01\x00\x00", api.ErrFilter},
		{"\x00\x01\x05\x00", api.ErrIndex},
		{"\x00\x00\x05\x01", api.ErrFilter},
		{"\x00\x00\x00\x01", api.ErrIndex},
		{"\xff\x01\xff\x01", api.ErrFilter},
	} {
		if c.want == api.OK {
			wantPix(t, s, c.raw, strings.Repeat("aabbcc\xff\xff", 2))
		} else {
			wantError(t, s, c.raw, c.want)
		}
		wrong, big := s, s
		wrong.Lace, big.H = 2, 4097
		wantError(t, wrong, c.raw, api.ErrHead)
		wantError(t, big, c.raw, api.ErrBig)
	}
}
