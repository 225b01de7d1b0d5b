package lace_test

import (
	"bytes"
	"compress/zlib"
	"image"
	library "image/png"
	"slices"
	"strings"
	"testing"

	"vitrine/api"
	"vitrine/chunk"
	"vitrine/head"
	"vitrine/lace"
)

// P10.3: every pixel belongs to one pass, at one position of it; and no position is outside of the image.
func TestEveryPixel(t *testing.T) {
	for _, size := range sizes() {
		for which := range 2 {
			h := grey(size[0], size[1], which)
			times := make([]int, h.W*h.H)
			for _, p := range lace.Passes(h) {
				for at := range p.W * p.H {
					x, y := p.X+at%p.W*p.DX, p.Y+at/p.W*p.DY
					if x < 0 || x >= h.W || y < 0 || y >= h.H {
						t.Fatalf("%+v: %v goes beyond the image", h, p)
					}
					times[y*h.W+x]++
				}
			}
			if at := slices.IndexFunc(times, func(n int) bool { return n != 1 }); at >= 0 {
				t.Fatalf("%+v: the pixel %d %d is in %d positions", h, at%h.W, at/h.W, times[at])
			}
		}
	}
}

// bitAt is a bit of a pixel, without a short period.
func bitAt(x, y, bit int) byte {
	n := uint32(x)*2654435761 + uint32(y)*40503*65537 + uint32(bit)*97
	n ^= n >> 15
	n *= 2246822519
	n ^= n >> 13
	return byte(n*3266489917>>31) & 1
}

// layOut is the data of an image, row by row in the passes, with rows of the size that Row tells.
func layOut(h api.Head) string {
	var data []byte
	bits := bitsOf(h)
	for _, p := range lace.Passes(h) {
		for row := range p.H {
			line := make([]byte, lace.Row(h, p.W))
			for at := range p.W * bits {
				line[at/8] |= bitAt(p.X+at/bits*p.DX, p.Y+row*p.DY, at%bits) << (7 - at%8)
			}
			data = append(append(data, 0), line...)
		}
	}
	return string(data)
}

// decoded is the picture that the library reads from the data of an image.
func decoded(t *testing.T, h api.Head, data string) image.Image {
	t.Helper()
	var packed bytes.Buffer
	w := zlib.NewWriter(&packed)
	w.Write([]byte(data))
	w.Close()
	chunks := []api.Chunk{head.Lay(h), {Type: "IDAT", Data: packed.String()}, {Type: "IEND"}}
	if h.Colour == api.Palette {
		chunks = slices.Insert(chunks, 1, api.Chunk{Type: "PLTE", Data: strings.Repeat("rgb", 1<<h.Depth)})
	}
	file, e := chunk.Join(chunks...)
	if e != api.OK {
		t.Fatal(e)
	}
	m, err := library.Decode(strings.NewReader(file))
	if err != nil {
		t.Fatalf("%+v: %v", h, err)
	}
	return m
}

// pixels are what the library keeps of a picture.
func pixels(m image.Image) []byte {
	switch m := m.(type) {
	case *image.Gray:
		return m.Pix
	case *image.Gray16:
		return m.Pix
	case *image.RGBA:
		return m.Pix
	case *image.RGBA64:
		return m.Pix
	case *image.NRGBA:
		return m.Pix
	case *image.NRGBA64:
		return m.Pix
	case *image.Paletted:
		return m.Pix
	}
	return nil
}

// P10.1, P10.2, P10.3: the library reads the same picture from an image that is interlaced and one that is not, and needs as many bytes as Size tells.
func TestLibraryReads(t *testing.T) {
	for _, f := range formats() {
		for _, size := range [][2]int{{1, 1}, {5, 1}, {1, 5}, {2, 3}, {3, 2}, {4, 4}, {7, 9}, {8, 8}, {9, 7}, {12, 11}, {16, 16}, {17, 17}, {33, 31}, {64, 64}, {1024, 4}, {1023, 3}, {4, 1024}} {
			var seen [2][]byte
			for which := range 2 {
				h := f.head(size[0], size[1], which)
				data := layOut(h)
				wantSize(t, h, len(data))
				seen[which] = pixels(decoded(t, h, data))
			}
			if len(seen[0]) < size[0]*size[1] || !bytes.Equal(seen[0], seen[1]) {
				t.Errorf("%+v of %v: other pixels", f, size)
			}
		}
	}
}

// P10.1: the library reads the pixels of an image that is not interlaced as they are.
func TestLibraryReadsRows(t *testing.T) {
	for _, size := range [][2]int{{1, 1}, {5, 1}, {1, 5}, {9, 7}, {64, 64}} {
		for which := range 2 {
			h := grey(size[0], size[1], which)
			pix := pixels(decoded(t, h, layOut(h)))
			for at, b := range pix {
				want := byte(0)
				for bit := range 8 {
					want = want<<1 | bitAt(at%h.W, at/h.W, bit)
				}
				if b != want {
					t.Fatalf("%+v: the pixel %d %d is %d, not %d", h, at%h.W, at/h.W, b, want)
				}
			}
		}
	}
}

// R2: what Passes returns is new: what is done with it changes no other result.
func TestResultsAreNew(t *testing.T) {
	for which := range 2 {
		h := grey(17, 17, which)
		one, other := lace.Passes(h), lace.Passes(h)
		all := one[:cap(one)] // also the memory behind its end
		for i := range all {
			all[i] = api.Pass{X: 1, Y: 2, DX: 3, DY: 4, W: 5, H: 6}
		}
		if !slices.Equal(other, passesModel(h)) {
			t.Errorf("%+v: changed: %v", h, other)
		}
		wantModel(t, h)
	}
}

// R3: a call does not depend on those before it.
func TestCallsAreApart(t *testing.T) {
	for range 3 {
		wantModel(t, grey(5, 1, 1))
		wantNothing(t, grey(5, 1, 2))
		wantModel(t, grey(5, 1, 0))
		wantNothing(t, grey(1025, 1, 1))
		wantModel(t, api.Head{W: 17, H: 17, Depth: 16, Colour: api.RGBA, Lace: 1})
		wantModel(t, api.Head{W: 17, H: 17, Depth: 1, Colour: api.Palette, Lace: 1})
		wantNothing(t, api.Head{W: 17, H: 17, Depth: 16, Colour: api.Palette, Lace: 1})
		wantModel(t, grey(1, 1, 1))
	}
}
