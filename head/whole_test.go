package head_test

import (
	"bytes"
	"compress/zlib"
	"image"
	"image/color"
	library "image/png"
	"io"
	"math/rand"
	"slices"
	"strings"
	"testing"
	"unsafe"

	"vitrine/api"
	"vitrine/chunk"
	"vitrine/head"
)

// ignored are chunks that need not be known, some of them of no type at all.
func ignored() []api.Chunk {
	return []api.Chunk{c("tEXt", "a\x00b"), c("gAMA", "\x00\x00\xb1\x8f"), c("iDAT", "data"), c("iEND", ""), c("", ""), c("\x00", "x"), c("zzzz", noise(1000)), c("pLTE", "abc"), c("tRNs", "ab")}
}

// P8.4: ignored chunks at each place of right lists and of wrong ones.
func TestIgnored(t *testing.T) {
	for _, colour := range colours() {
		for _, letters := range strings.Fields("HDDE HDE HPDDDE HPTDE HTDE H HD HPD HDP HDT HTP HE HPE HDEE HDED HC HDC HH HTT HPP HPTDDPE HDDEC") {
			list := listOf(colour, letters)
			shape, data, e := readModel(list)
			for at := 1; at <= len(list); at++ {
				between := at < len(list) && letters[at-1] == 'D' && letters[at] == 'D'
				if between || e == api.OK && at == len(list) {
					continue // an error of its own, which other tests want
				}
				for _, x := range ignored() {
					wantRead(t, "one", slices.Insert(slices.Clone(list), at, x), shape, data, e)
					wantRead(t, "three", slices.Insert(slices.Clone(list), at, x, x, ignored()[0]), shape, data, e)
				}
				wantRead(t, "all", slices.Insert(slices.Clone(list), at, ignored()...), shape, data, e)
			}
		}
	}
}

// P8.4, P8.3: ignored chunks where they are an error: ahead of the header, between IDATs, behind the end.
func TestNotIgnored(t *testing.T) {
	for _, colour := range colours() {
		list := listOf(colour, "HPTDDDE")
		if colour != api.Palette && colour != api.RGB {
			list = slices.Delete(list, 1, 3)
		}
		first := slices.IndexFunc(list, func(x api.Chunk) bool { return x.Type == "IDAT" })
		for _, x := range ignored() {
			wantError(t, "ahead of the header", api.ErrOrder, slices.Insert(slices.Clone(list), 0, x)...)
			wantError(t, "between", api.ErrOrder, slices.Insert(slices.Clone(list), first+1, x)...)
			wantError(t, "between, twice", api.ErrOrder, slices.Insert(slices.Clone(list), first+1, x, x)...)
			wantError(t, "between the last ones", api.ErrOrder, slices.Insert(slices.Clone(list), first+2, x)...)
			wantError(t, "behind the end", api.ErrMore, append(slices.Clone(list), x)...)
		}
	}
}

// P8.4: data that are divided in all ways, with and without IDATs of no data between them.
func TestDivided(t *testing.T) {
	const whole = "\x00ab\xff\nIDAT"
	for _, colour := range colours() {
		letters := "H"
		shape := api.Shape{Head: api.Head{W: 2, H: 3, Depth: 8, Colour: colour}}
		if colour == api.Palette {
			letters, shape.Palette = "HP", "abcdef"
		}
		for way := range 1 << (len(whole) - 1) {
			var plain, filled []api.Chunk
			from := 0
			for to := 1; to <= len(whole); to++ {
				if to == len(whole) || way>>(to-1)&1 == 1 {
					plain = append(plain, c("IDAT", whole[from:to]))
					filled = append(filled, c("IDAT", ""), c("IDAT", whole[from:to]))
					from = to
				}
			}
			for _, pieces := range [][]api.Chunk{plain, filled, append(filled, c("IDAT", ""))} {
				wantRead(t, "divided", slices.Concat(listOf(colour, letters), pieces, listOf(colour, "xE")), shape, whole, api.OK)
			}
		}
	}
}

// randomChunk is a chunk of a kind that a list may have, right now and then.
func randomChunk(rnd *rand.Rand, colour int) api.Chunk {
	kinds := []string{"PLTE", "PLTE", "tRNS", "tRNS", "IDAT", "IDAT", "IDAT", "IDAT", "IEND", "IEND", "tEXt", "ABCD", "IHDR", ""}
	kind := kinds[rnd.Intn(len(kinds))]
	n := rnd.Intn(9)
	if kind == "IEND" {
		n = max(0, n-7)
	}
	if kind == "PLTE" && rnd.Intn(4) > 0 {
		n = 3 * rnd.Intn(20)
	}
	if kind == "tRNS" && rnd.Intn(2) > 0 {
		n = len(transOf(colour))
	}
	return c(kind, noise(n))
}

// randomList is a header and some chunks, in the order of a right file for the most part.
func randomList(rnd *rand.Rand) []api.Chunk {
	colour := colours()[rnd.Intn(5)]
	depths := depthsOf()[colour]
	h := ihdr(uint32(1+rnd.Intn(70)), uint32(1+rnd.Intn(59)), byte(depths[rnd.Intn(len(depths))]), byte(colour), 0, 0, byte(rnd.Intn(2)))
	list := make([]api.Chunk, rnd.Intn(9))
	for i := range list {
		list[i] = randomChunk(rnd, colour)
	}
	if rnd.Intn(4) > 0 {
		slices.SortStableFunc(list, func(a, b api.Chunk) int {
			return strings.Index("PLTEtRNSIDATIEND", a.Type) - strings.Index("PLTEtRNSIDATIEND", b.Type)
		})
	}
	switch list = append([]api.Chunk{h}, list...); rnd.Intn(20) {
	case 0:
		list = slices.Delete(list, 0, 1)
	case 1:
		b := []byte(h.Data)
		b[rnd.Intn(len(b))] ^= 1 << rnd.Intn(8)
		list[0].Data = string(b)
	}
	return list
}

// P8.3: random lists; all errors occur.
func TestRandom(t *testing.T) {
	rnd := rand.New(rand.NewSource(81))
	seen := map[api.Errno]int{}
	for range 200000 {
		seen[wantModel(t, randomList(rnd))]++
	}
	for _, e := range []api.Errno{api.OK, api.ErrHead, api.ErrBig, api.ErrOrder, api.ErrPalette, api.ErrTrans, api.ErrCritical, api.ErrChunk, api.ErrMore, api.ErrEnd} {
		if seen[e] == 0 {
			t.Errorf("never: %v", e)
		}
	}
}

// images are images of each kind that the library writes, and the headers, palettes and transparencies that it then writes.
func images() map[image.Image]api.Shape {
	box := image.Rect(0, 0, 64, 60)
	two := image.NewPaletted(box, color.Palette{color.Black, color.NRGBA{1, 2, 3, 4}})
	many := image.NewPaletted(box, color.Palette{})
	palette := ""
	for i := range 200 {
		many.Palette = append(many.Palette, color.RGBA{byte(i), 7, byte(255 - i), 255})
		palette += string([]byte{byte(i), 7, byte(255 - i)})
	}
	opaque := image.NewRGBA(box)
	for i := range opaque.Pix {
		opaque.Pix[i] = 255
	}
	of := func(depth, colour int) api.Shape {
		return api.Shape{Head: api.Head{W: 64, H: 60, Depth: depth, Colour: colour}}
	}
	withTwo, withMany := of(1, api.Palette), of(8, api.Palette)
	withTwo.Palette, withTwo.Trans, withTwo.HasTrans = "\x00\x00\x00\x01\x02\x03", "\xff\x04", true
	withMany.Palette = palette
	return map[image.Image]api.Shape{
		image.NewGray(box):    of(8, api.Grey),
		image.NewGray16(box):  of(16, api.Grey),
		image.NewNRGBA(box):   of(8, api.RGBA),
		image.NewNRGBA64(box): of(16, api.RGBA),
		opaque:                of(8, api.RGB),
		two:                   withTwo,
		many:                  withMany,
	}
}

// P8.3: PNGs of the library; their data are a whole stream.
func TestLibrary(t *testing.T) {
	for m, shape := range images() {
		var file bytes.Buffer
		if err := library.Encode(&file, m); err != nil {
			t.Fatal(err)
		}
		chunks, e := chunk.Split(file.String())
		if e != api.OK {
			t.Fatal(e)
		}
		got, data, e := head.Read(chunks...)
		if got != shape || e != api.OK {
			t.Errorf("%s, %v; not %s", told(got), e, told(shape))
		}
		r, err := zlib.NewReader(strings.NewReader(data))
		if err != nil {
			t.Fatal(err)
		}
		bits := head.Samples(got.Colour) * got.Depth * got.W
		if raw, err := io.ReadAll(r); err != nil || len(raw) != got.H*(1+(bits+7)/8) {
			t.Errorf("%s: %d bytes, %v", told(got), len(raw), err)
		}
	}
}

// R2: Read changes nothing of the list that it is given, nor of the memory behind its end, and keeps nothing of it.
func TestReadChangesNothing(t *testing.T) {
	for _, letters := range []string{"HPTDDE", "HPTD", "HPTDDEE", "HxPxDxE", "HPDxD", "H", ""} {
		behind := c("kept", "kept")
		list := listOf(api.RGB, letters)
		memory := append(slices.Clone(list), behind, c("IEND", ""), behind)
		given := memory[:len(list)]
		shape, data, e := head.Read(given...)
		if !slices.Equal(memory, append(slices.Clone(list), behind, c("IEND", ""), behind)) {
			t.Errorf("changed: %.80q", memory)
		}
		clear(memory)
		wantRead(t, "a later call", list, shape, data, e)
	}
}

// R2: what Read returns shares no memory with its arguments, also where there is but one IDAT.
func TestReadIsNew(t *testing.T) {
	inside := func(s, text string) bool {
		at, from := uintptr(unsafe.Pointer(unsafe.StringData(s))), uintptr(unsafe.Pointer(unsafe.StringData(text)))
		return s != "" && at >= from && at < from+uintptr(len(text))
	}
	for _, letters := range []string{"HPTDE", "HPTDDE"} {
		list := listOf(api.RGB, letters)
		for i := range list {
			list[i].Data = string([]byte(list[i].Data)) // not a constant, which might be shared with others
		}
		shape, data, e := head.Read(list...)
		if e != api.OK {
			t.Fatal(e)
		}
		for _, x := range list {
			for _, s := range []string{shape.Palette, shape.Trans, data} {
				if inside(s, x.Data) {
					t.Errorf("%q is a part of %q", s, x)
				}
			}
		}
	}
}

// R3: a call does not depend on those before it.
func TestCallsAreApart(t *testing.T) {
	for range 3 {
		wantWay(t, api.RGB, "HPTDDE", api.OK)
		wantWay(t, api.Palette, "HPTD", api.ErrEnd)
		wantWay(t, api.Palette, "HDE", api.ErrOrder)
		wantWay(t, api.Grey, "HDE", api.OK)
		wantRight(t, api.Head{}, api.ErrHead)
		wantRight(t, api.Head{W: 1, H: 1, Depth: 8}, api.OK)
		wantLay(t, api.Head{}, strings.Repeat("\x00", 13))
	}
}
