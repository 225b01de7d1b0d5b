package pixel_test

import (
	"bytes"
	"compress/zlib"
	"image"
	"image/color"
	library "image/png"
	"io"
	"math/rand"
	"strings"
	"testing"
	"unsafe"

	"vitrine/api"
	"vitrine/chunk"
	"vitrine/head"
	"vitrine/pixel"
)

// deep is the shape of a raster's data.
func deep(w, h int) api.Shape { return format{api.RGBA, 16, 4}.shape(w, h, 0) }

// P12.4: Image of what Rows returns is the raster again.
func TestThereAndBack(t *testing.T) {
	rnd := rand.New(rand.NewSource(125))
	for w := 1; w <= 1024; w += 1 + w/3 {
		for h := 1; h <= 1024 && w*h <= 4096; h += 1 + h/3 {
			for _, pix := range contents(rnd, w, h) {
				r := api.Raster{W: w, H: h, Pix: pix}
				data, e := pixel.Rows(r)
				if e != api.OK || len(data) != h*(1+8*w) {
					t.Fatalf("Rows(%s): %d bytes, %d", short(r), len(data), e)
				}
				wantImage(t, deep(w, h), data, r, api.OK)
			}
		}
	}
}

// P12.4: what Image returns is a raster for Check and Rows, whose data gives it again, from each format.
func TestRastersAreRight(t *testing.T) {
	rnd := rand.New(rand.NewSource(126))
	for _, f := range formats() {
		for _, lace := range []int{0, 1} {
			for _, s := range f.shapes(13, 11, lace) {
				r, e := pixel.Image(s, pictureOf(rnd, s, 1<<f.depth).data(mixed))
				if e != api.OK {
					t.Fatalf("%s: %d", short(s), e)
				}
				wantCheck(t, r, api.OK)
				rowsLikeModel(t, r)
				data, _ := pixel.Rows(r)
				wantImage(t, deep(13, 11), data, r, api.OK)
			}
		}
	}
}

// P12.4: the raster depends neither on the types of filters nor on interlacing.
func TestOneRaster(t *testing.T) {
	rnd := rand.New(rand.NewSource(127))
	for _, f := range formats() {
		for _, size := range [][2]int{{1, 1}, {2, 1}, {1, 2}, {5, 1}, {1, 5}, {3, 2}, {4, 4}, {8, 8}, {9, 7}, {17, 17}, {33, 5}} {
			for _, s := range f.shapes(size[0], size[1], 0) {
				p := pictureOf(rnd, s, 1<<f.depth)
				want, e := pixel.Image(s, p.data(all(0)))
				if e != api.OK {
					t.Fatalf("%s: %d", short(s), e)
				}
				for _, lace := range []int{0, 1} {
					p.shape.Lace = lace
					for kind := range 5 {
						wantImage(t, p.shape, p.data(all(kind)), want, api.OK)
					}
					wantImage(t, p.shape, p.data(mixed), want, api.OK)
					wantImage(t, p.shape, p.data(func(int) int { return rnd.Intn(5) }), want, api.OK)
				}
			}
		}
	}
}

// decoded is the picture that the library reads from image data.
func decoded(t *testing.T, s api.Shape, data string) image.Image {
	t.Helper()
	var stream bytes.Buffer
	w := zlib.NewWriter(&stream)
	io.WriteString(w, data)
	w.Close()
	chunks := []api.Chunk{head.Lay(s.Head)}
	if s.Palette != "" {
		chunks = append(chunks, api.Chunk{Type: "PLTE", Data: s.Palette})
	}
	if s.HasTrans {
		chunks = append(chunks, api.Chunk{Type: "tRNS", Data: s.Trans})
	}
	file, e := chunk.Join(append(chunks, api.Chunk{Type: "IDAT", Data: stream.String()}, api.Chunk{Type: "IEND"})...)
	if e != api.OK {
		t.Fatal(e)
	}
	m, err := library.Decode(strings.NewReader(file))
	if err != nil {
		t.Fatalf("%s: %v", short(s), err)
	}
	return m
}

// rasterOf is a picture of the library as a raster.
func rasterOf(m image.Image) api.Raster {
	box := m.Bounds()
	var pix strings.Builder
	for y := box.Min.Y; y < box.Max.Y; y++ {
		for x := box.Min.X; x < box.Max.X; x++ {
			pix.WriteString(libraryPixel(m.At(x, y)))
		}
	}
	return api.Raster{W: box.Dx(), H: box.Dy(), Pix: pix.String()}
}

// libraryPixel is a colour of the library, whose channels are not multiplied by alpha.
func libraryPixel(c color.Color) string {
	switch c := c.(type) {
	case color.NRGBA:
		return channels(int(c.R)*257, int(c.G)*257, int(c.B)*257, int(c.A)*257)
	case color.NRGBA64:
		return channels(int(c.R), int(c.G), int(c.B), int(c.A))
	}
	red, green, blue, alpha := c.RGBA() // a colour without transparency
	return channels(int(red), int(green), int(blue), int(alpha))
}

// P12.2, P12.4: the library reads the same pixels as Image from data of each format, with each type of filter, interlaced and not.
func TestLibraryReads(t *testing.T) {
	rnd := rand.New(rand.NewSource(128))
	for _, f := range formats() {
		for _, size := range [][2]int{{1, 1}, {5, 1}, {1, 5}, {3, 2}, {9, 7}, {17, 19}, {64, 64}} {
			for _, lace := range []int{0, 1} {
				for _, s := range f.shapes(size[0], size[1], lace) {
					p := pictureOf(rnd, s, 1<<rnd.Intn(f.depth+1))
					data := p.data(mixed)
					wantImage(t, s, data, rasterOf(decoded(t, s, data)), api.OK)
				}
			}
		}
	}
}

// P12.3: the library reads the pixels of a raster from its data.
func TestLibraryReadsRows(t *testing.T) {
	rnd := rand.New(rand.NewSource(129))
	for _, size := range [][2]int{{1, 1}, {5, 1}, {1, 5}, {9, 7}, {64, 64}, {1024, 4}} {
		for _, pix := range contents(rnd, size[0], size[1]) {
			r := api.Raster{W: size[0], H: size[1], Pix: pix}
			data, e := pixel.Rows(r)
			if got := rasterOf(decoded(t, deep(r.W, r.H), data)); got != r || e != api.OK {
				t.Errorf("%s: the library reads %s, %d", short(r), short(got), e)
			}
		}
	}
}

// written are pictures of the library, in the kinds that it writes in different formats, with the pixels of of.
func written(w, h int, of func() color.NRGBA64) []image.Image {
	box := image.Rect(0, 0, w, h)
	var clear, plain color.Palette
	for range 16 {
		c := color.NRGBAModel.Convert(of()).(color.NRGBA)
		clear = append(clear, c)
		c.A = 255
		plain = append(plain, c)
	}
	list := []image.Image{image.NewGray(box), image.NewGray16(box), image.NewNRGBA(box), image.NewNRGBA64(box), image.NewRGBA(box), image.NewRGBA64(box), image.NewPaletted(box, plain[:2]), image.NewPaletted(box, clear[:4]), image.NewPaletted(box, plain[:16]), image.NewPaletted(box, clear[:16])}
	for i, m := range list {
		for at := range w * h {
			c := of()
			if i == 4 || i == 5 {
				c.A = 65535 // the library writes these without alpha
			}
			if m, ok := m.(*image.Paletted); ok {
				m.Pix[at] = byte(c.R) % byte(len(m.Palette))
				continue
			}
			m.(interface{ Set(x, y int, c color.Color) }).Set(at%w, at/w, c)
		}
	}
	return list
}

// P12.2: Image reads the pixels of what the library writes, in each format of it.
func TestLibraryWrites(t *testing.T) {
	rnd := rand.New(rand.NewSource(130))
	of := func() color.NRGBA64 {
		return color.NRGBA64{R: uint16(rnd.Intn(65536)), G: uint16(rnd.Intn(65536)), B: uint16(rnd.Intn(65536)), A: uint16(rnd.Intn(65536))}
	}
	seen := map[[2]int]bool{}
	for _, size := range [][2]int{{1, 1}, {5, 1}, {1, 5}, {9, 7}, {61, 59}} {
		for _, m := range written(size[0], size[1], of) {
			var file bytes.Buffer
			if err := library.Encode(&file, m); err != nil {
				t.Fatal(err)
			}
			chunks, _ := chunk.Split(file.String())
			s, data, _ := head.Read(chunks...)
			r, err := zlib.NewReader(strings.NewReader(data))
			if err != nil {
				t.Fatal(err)
			}
			raw, err := io.ReadAll(r)
			if err != nil {
				t.Fatal(err)
			}
			wantImage(t, s, string(raw), rasterOf(m), api.OK)
			seen[[2]int{s.Colour, s.Depth}] = true
		}
	}
	if len(seen) < 9 {
		t.Errorf("only the formats %v", seen)
	}
}

// R2: what is returned is new, and no part of what is passed in.
func TestResultsAreNew(t *testing.T) {
	inside := func(s, text string) bool {
		at, from := uintptr(unsafe.Pointer(unsafe.StringData(s))), uintptr(unsafe.Pointer(unsafe.StringData(text)))
		return at >= from && at < from+uintptr(len(text))
	}
	pix := noise(1, 8*64)
	data, _ := pixel.Rows(api.Raster{W: 64, H: 1, Pix: pix})
	if inside(data, pix) || inside(pix, data) {
		t.Error("the data is a part of the raster")
	}
	raw := "\x00" + pix
	r, _ := pixel.Image(deep(64, 1), raw)
	if inside(r.Pix, raw) || inside(raw, r.Pix) {
		t.Error("the raster is a part of the data")
	}
}

// R3: a call does not depend on those before it.
func TestCallsAreApart(t *testing.T) {
	for range 3 {
		wantPix(t, grey(2, 1, 0), "\x02\x01\x02", greys(1, 2))
		wantPix(t, grey(2, 1, 1), "\x02\x01\x02\x02", greys(1, 2))
		wantError(t, grey(2, 1, 1), "\x02\x01\x05\x02", api.ErrFilter)
		wantPix(t, grey(1, 2, 0), "\x02\x01\x02\x01", greys(1, 2))
		wantError(t, grey(1, 2, 0), "\x02\x01\x02", api.ErrShort)
		wantError(t, format{api.Palette, 8, 1}.bare(1, 1, 0), "\x00\x00", api.ErrIndex)
		wantRows(t, api.Raster{W: 1, H: 2, Pix: "abcdefghabcdefgh"}, "\x00abcdefgh\x02"+strings.Repeat("\x00", 8), api.OK)
		wantCheck(t, api.Raster{W: 1, H: 2, Pix: "abcdefgh"}, api.ErrHead)
		wantRows(t, api.Raster{W: 1, H: 1, Pix: "abcdefgh"}, "\x00abcdefgh", api.OK)
	}
}
