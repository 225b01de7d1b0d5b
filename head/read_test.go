package head_test

import (
	"math"
	"slices"
	"strings"
	"testing"

	"vitrine/api"
	"vitrine/head"
)

// P8.3: the examples of the document.
func TestReadExamples(t *testing.T) {
	h, x, y, end := ihdr(1, 1, 8, 0, 0, 0, 0), c("IDAT", "x"), c("IDAT", "y"), c("IEND", "")
	wantRead(t, "two IDATs", []api.Chunk{h, x, y, end}, api.Shape{Head: api.Head{W: 1, H: 1, Depth: 8}}, "xy", api.OK)
	wantError(t, "no IDAT", api.ErrOrder, h, end)
	wantError(t, "a tEXt between the IDATs", api.ErrOrder, h, x, c("tEXt", ""), y, end)
	wantError(t, "an ABCD", api.ErrCritical, h, c("ABCD", ""), x, y, end)
	wantError(t, "the colour type 1", api.ErrHead, ihdr(1, 1, 8, 1, 0, 0, 0), x, y, end)
	wantError(t, "the width 1025", api.ErrBig, ihdr(1025, 1, 8, 0, 0, 0, 0), x, y, end)
}

// P8.3: no chunks, and a first one that is no IHDR, whatever it has and whatever follows.
func TestReadFirst(t *testing.T) {
	wantError(t, "no chunks", api.ErrOrder)
	wantError(t, "no chunks", api.ErrOrder, []api.Chunk{}...)
	right := listOf(api.RGB, "HPTDE")
	for _, kind := range []string{"", "I", "IHD", "IHDRx", "IHDR\x00", "ihdr", "iHDR", "IHDr", "PLTE", "tRNS", "IDAT", "IEND", "tEXt", "ABCD", "\xff"} {
		for _, data := range []string{"", "abc", right[0].Data} {
			wantError(t, "a first one", api.ErrOrder, c(kind, data))
			wantError(t, "a first one", api.ErrOrder, slices.Insert(slices.Clone(right), 0, c(kind, data))...)
			wantError(t, "a first one", api.ErrOrder, append([]api.Chunk{c(kind, data)}, right[1:]...)...)
			wantError(t, "and a wrong header", api.ErrOrder, c(kind, data), c("IHDR", ""), c("IEND", ""))
		}
	}
}

// P8.3: an IHDR of any length other than 13 bytes; those that it has are right or not.
func TestReadHeadLength(t *testing.T) {
	tail := listOf(api.RGB, "DE")
	for _, whole := range []string{small(api.RGB, 8).Data + strings.Repeat("\x00", 300), strings.Repeat("\x00", 313), strings.Repeat("\xff", 313), ihdr(1025, 1, 8, 0, 0, 0, 0).Data + noise(300)} {
		for n := range len(whole) {
			if n != 13 {
				wantError(t, "a length", api.ErrHead, append([]api.Chunk{c("IHDR", whole[:n])}, tail...)...)
				wantError(t, "a length, alone", api.ErrHead, c("IHDR", whole[:n]))
			}
		}
	}
}

// P8.3: the two bytes after the colour type, each with each value.
func TestReadTwoBytes(t *testing.T) {
	tail := listOf(api.RGB, "DE")
	for first := range 256 {
		for second := range 256 {
			if first == 0 && second == 0 {
				continue
			}
			x := ihdr(2, 3, 8, 2, byte(first), byte(second), 0)
			wantError(t, "two bytes", api.ErrHead, append([]api.Chunk{x}, tail...)...)
			wantError(t, "and too big", api.ErrHead, append([]api.Chunk{ihdr(1025, 3, 8, 2, byte(first), byte(second), 1)}, tail...)...)
		}
	}
}

// P8.3: the error of Right for the numbers of an IHDR, which are not negative.
func TestReadHead(t *testing.T) {
	sides := []uint32{0, 1, 4, 5, 64, 65, 1024, 1025, 65536, math.MaxInt32, math.MaxInt32 + 1, math.MaxInt32 + 2, math.MaxUint32}
	for _, w := range sides {
		for _, h := range sides {
			for _, lace := range []int{0, 1, 2, 255} {
				want := rightModel(api.Head{W: int(w), H: int(h), Depth: 8, Lace: lace})
				list := []api.Chunk{ihdr(w, h, 8, 0, 0, 0, byte(lace)), c("IDAT", "x"), c("IEND", "")}
				if e := wantModel(t, list); e != want {
					t.Errorf("%d by %d, %d: %v, not %v", w, h, lace, e, want)
				}
			}
		}
	}
	for colour := range 256 {
		for depth := range 256 {
			want := api.ErrHead
			if slices.Contains(depthsOf()[colour], depth) {
				want = api.OK
			}
			list := []api.Chunk{small(colour, depth), c("PLTE", "abc"), c("IDAT", "x"), c("IEND", "")}
			if colour != api.Palette {
				list = slices.Delete(list, 1, 2)
			}
			if e := wantModel(t, list); e != want {
				t.Errorf("%d, %d: %v, not %v", colour, depth, e, want)
			}
		}
	}
}

// P8.3: the error of the header is told ahead of those of all chunks behind it.
func TestReadHeadAhead(t *testing.T) {
	for _, x := range []struct {
		first api.Chunk
		e     api.Errno
	}{{c("IHDR", ""), api.ErrHead}, {ihdr(2, 3, 8, 2, 0, 1, 0), api.ErrHead}, {ihdr(2, 3, 8, 2, 0, 0, 2), api.ErrHead}, {ihdr(65, 64, 8, 2, 0, 0, 0), api.ErrBig}} {
		for _, letters := range []string{"", "E", "H", "C", "DPE", "DEE", "DTE", "DxDE"} {
			wantError(t, letters, x.e, append([]api.Chunk{x.first}, listOf(api.RGB, letters)...)...)
		}
	}
}

// wantPalette wants a palette of n bytes to be accepted, or not.
func wantPalette(t *testing.T, colour, depth, n int, e api.Errno) {
	t.Helper()
	palette := noise(n)
	list := []api.Chunk{small(colour, depth), c("PLTE", palette), c("IDAT", "x"), c("IEND", "")}
	if e != api.OK {
		wantError(t, "a palette", e, list...)
		return
	}
	wantRead(t, "a palette", list, api.Shape{Head: api.Head{W: 2, H: 3, Depth: depth, Colour: colour}, Palette: palette}, "x", api.OK)
}

// P8.3: palettes of the lengths at the edges, for each colour type.
func TestPaletteEdges(t *testing.T) {
	for _, depth := range []int{1, 2, 4, 8} {
		most := map[int]int{1: 6, 2: 12, 4: 48, 8: 768}[depth]
		wantPalette(t, api.Palette, depth, 3, api.OK)
		wantPalette(t, api.Palette, depth, most, api.OK)
		for _, n := range []int{0, 2, 4, most - 1, most + 1, most + 3, 771} {
			wantPalette(t, api.Palette, depth, n, api.ErrPalette)
		}
	}
	for _, colour := range []int{api.RGB, api.RGBA} {
		for _, depth := range []int{8, 16} {
			for _, n := range []int{3, 6, 48, 51, 765, 768} {
				wantPalette(t, colour, depth, n, api.OK)
			}
			for _, n := range []int{0, 1, 2, 4, 767, 769, 771, 3 * 512, 3 << 16} {
				wantPalette(t, colour, depth, n, api.ErrPalette)
			}
		}
	}
	for _, colour := range []int{api.Grey, api.GreyA} {
		for _, depth := range depthsOf()[colour] {
			for _, n := range []int{0, 2, 3, 4, 6, 768, 771} {
				wantPalette(t, colour, depth, n, api.ErrPalette)
			}
		}
	}
}

// P8.3: palettes of all lengths to far above the greatest.
func TestPaletteLengths(t *testing.T) {
	for _, colour := range colours() {
		for _, depth := range depthsOf()[colour] {
			for n := range 800 {
				wantModel(t, []api.Chunk{small(colour, depth), c("PLTE", noise(n)), c("IDAT", "x"), c("IEND", "")})
			}
		}
	}
}

// wantTrans wants a transparency of n bytes, behind a palette if there is one, to be accepted, or not.
func wantTrans(t *testing.T, colour, depth int, palette string, n int, e api.Errno) {
	t.Helper()
	trans := noise(n)
	list := []api.Chunk{small(colour, depth), c("PLTE", palette), c("tRNS", trans), c("IDAT", "x"), c("IEND", "")}
	if palette == "" {
		list = slices.Delete(list, 1, 2)
	}
	if e != api.OK {
		wantError(t, "a transparency", e, list...)
		return
	}
	shape := api.Shape{Head: api.Head{W: 2, H: 3, Depth: depth, Colour: colour}, Palette: palette, Trans: trans, HasTrans: true}
	wantRead(t, "a transparency", list, shape, "x", api.OK)
}

// P8.3: transparencies of all short lengths for the colour types that have no palette, with a palette beside them or not.
func TestTransLengths(t *testing.T) {
	for _, colour := range []int{api.Grey, api.RGB, api.GreyA, api.RGBA} {
		most := map[int]int{api.Grey: 2, api.RGB: 6}[colour]
		for _, depth := range depthsOf()[colour] {
			for n := range 300 {
				e := api.ErrTrans
				if most != 0 && n == most {
					e = api.OK
				}
				wantTrans(t, colour, depth, "", n, e)
				if colour == api.RGB || colour == api.RGBA {
					wantTrans(t, colour, depth, "abc", n, e)
					wantTrans(t, colour, depth, noise(768), n, e)
				}
			}
		}
	}
}

// P8.3: transparencies of no bytes, of as many as the palette has entries, and of more.
func TestTransOfPalette(t *testing.T) {
	for _, depth := range []int{1, 2, 4, 8} {
		for entries := 1; entries <= 1<<depth; entries++ {
			palette := noise(3 * entries)
			for _, n := range []int{0, 1, entries - 1, entries} {
				wantTrans(t, api.Palette, depth, palette, n, api.OK)
			}
			for _, n := range []int{entries + 1, entries + 2, 3*entries - 1, 3 * entries, 3*entries + 1, 257, 1000} {
				if n > entries {
					wantTrans(t, api.Palette, depth, palette, n, api.ErrTrans)
				}
			}
		}
	}
}

// P8.3: IDATs without data, and data in many pieces; an IDAT without data is one all the same.
func TestData(t *testing.T) {
	shape := api.Shape{Head: api.Head{W: 2, H: 3, Depth: 8}}
	whole := noise(1000)
	for _, n := range []int{1, 2, 3, 7, 100, 999, 1000} {
		list := []api.Chunk{small(api.Grey, 8), c("IDAT", "")}
		for piece := range slices.Chunk([]byte(whole), n) {
			list = append(list, c("IDAT", string(piece)), c("IDAT", ""))
		}
		wantRead(t, "pieces", append(list, c("IEND", "")), shape, whole, api.OK)
	}
	list := slices.Concat([]api.Chunk{small(api.Grey, 8)}, slices.Repeat([]api.Chunk{c("IDAT", "\x00\xff")}, 50000), []api.Chunk{c("IEND", "")})
	wantRead(t, "many", list, shape, strings.Repeat("\x00\xff", 50000), api.OK)
	h, none, x, end := small(api.Grey, 8), c("IDAT", ""), c("IDAT", "x"), c("IEND", "")
	wantRead(t, "no data", []api.Chunk{h, none, end}, shape, "", api.OK)
	wantRead(t, "no data, twice", []api.Chunk{h, none, none, end}, shape, "", api.OK)
	wantRead(t, "no data behind data", []api.Chunk{h, x, none, end}, shape, "x", api.OK)
	wantError(t, "between those without data", api.ErrOrder, h, none, c("tEXt", ""), none, end)
	wantError(t, "between", api.ErrOrder, h, none, c("tEXt", ""), x, end)
	wantError(t, "a transparency behind no data", api.ErrOrder, h, none, c("tRNS", "ab"), end)
	wantError(t, "a palette behind no data", api.ErrOrder, small(api.RGB, 8), none, c("PLTE", "abc"), end)
}

// P8.3: an IEND with data, without an IDAT, with chunks behind it, with several of these, and none at all.
func TestEnd(t *testing.T) {
	h, x, end, wrong := small(api.Grey, 8), c("IDAT", "x"), c("IEND", ""), c("IEND", "\x00")
	wantError(t, "none", api.ErrEnd, h)
	wantError(t, "none behind data", api.ErrEnd, h, x)
	wantError(t, "none behind an ignored chunk", api.ErrEnd, h, x, c("tEXt", ""))
	for _, other := range []string{"", "IEN", "IENDx", "iEND", "iend"} {
		wantModel(t, []api.Chunk{h, x, c(other, "")})
	}
	wantError(t, "data", api.ErrChunk, h, x, wrong)
	wantError(t, "much data", api.ErrChunk, h, x, c("IEND", noise(1000)))
	wantError(t, "no IDAT", api.ErrOrder, h, end)
	wantError(t, "no IDAT, behind an ignored chunk", api.ErrOrder, h, c("tEXt", "x"), end)
	wantError(t, "data and no IDAT", api.ErrChunk, h, wrong)
	wantError(t, "data and chunks", api.ErrChunk, h, x, wrong, end)
	wantError(t, "data, no IDAT and chunks", api.ErrChunk, h, wrong, x, end)
	wantError(t, "no IDAT and chunks", api.ErrOrder, h, end, x)
	wantError(t, "no IDAT and an end", api.ErrOrder, h, end, end)
	for _, behind := range []api.Chunk{end, wrong, x, h, c("tEXt", ""), c("ABCD", ""), c("PLTE", "abc"), c("tRNS", "ab"), c("", ""), c("IHDR", "")} {
		wantError(t, "a chunk", api.ErrMore, h, x, end, behind)
		wantError(t, "two chunks", api.ErrMore, h, x, end, behind, end)
		wantError(t, "two chunks", api.ErrMore, h, x, x, end, c("tEXt", ""), behind)
	}
}

// P8.3: other types, by their first byte, which need not be types of chunk.
func TestOther(t *testing.T) {
	shape := api.Shape{Head: api.Head{W: 2, H: 3, Depth: 8, Colour: 2}}
	h, x, end := small(api.RGB, 8), c("IDAT", "x"), c("IEND", "")
	wantOther := func(kind string, critical bool) {
		t.Helper()
		for _, data := range []string{"", "abc", "\x00"} {
			if other := c(kind, data); critical {
				wantError(t, "critical", api.ErrCritical, h, other, x, end)
				wantError(t, "critical", api.ErrCritical, h, x, other, end)
				wantError(t, "critical, between", api.ErrCritical, h, x, other, x, end)
				wantError(t, "critical, at the end", api.ErrCritical, h, x, other)
			} else {
				wantRead(t, "ignored", []api.Chunk{h, other, x, other, end}, shape, "x", api.OK)
				wantError(t, "ignored, between", api.ErrOrder, h, x, other, x, end)
				wantError(t, "ignored, at the end", api.ErrEnd, h, x, other)
			}
		}
	}
	wantOther("", false)
	for b := range 256 {
		upper := strings.IndexByte("ABCDEFGHIJKLMNOPQRSTUVWXYZ", byte(b)) >= 0
		for _, behind := range []string{"", "x", "XYZ", "xyz", "\x00\x00\x00", "HDRx", "DAT\x00", "HDRIHDR"} {
			wantOther(string([]byte{byte(b)})+behind, upper)
		}
	}
	for _, known := range []string{"IHDR", "PLTE", "tRNS", "IDAT", "IEND"} {
		critical := known != "tRNS"
		for at := range 4 {
			for _, bit := range []byte{1, 32, 128} {
				near := known[:at] + string([]byte{known[at] ^ bit}) + known[at+1:]
				wantOther(near, near[0] >= 'A' && near[0] <= 'Z')
			}
		}
		wantOther(known[:3], critical)
		wantOther(known+" ", critical)
		wantOther(" "+known, false)
	}
}

// R1: with an error the shape is empty, although the header, a palette, a transparency and data were read.
func TestNothingWithAnError(t *testing.T) {
	for _, letters := range []string{"HPTD", "HPTDC", "HPTDH", "HPTDP", "HPTDT", "HPTDxD", "HPTDEE", "HPTE", "HP", "H"} {
		shape, data, e := head.Read(listOf(api.Palette, letters)...)
		if e == api.OK || shape != (api.Shape{}) || data != "" {
			t.Errorf("%s: %s, %q, %v", letters, told(shape), data, e)
		}
	}
}
