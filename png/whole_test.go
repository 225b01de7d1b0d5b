package png_test

import (
	"bytes"
	"image"
	"image/color"
	library "image/png"
	"math/rand"
	"strings"
	"testing"
	"unsafe"

	"vitrine/api"
	"vitrine/chunk"
	"vitrine/head"
	"vitrine/png"
)

// contents are pixels of different kinds: flat ones, noise of many values and of few, steps.
func contents(rnd *rand.Rand, w, h int) []string {
	n := 8 * w * h
	list := []string{strings.Repeat("\x00", n), strings.Repeat("\xff", n), noise(n, n)}
	few, steps := make([]byte, n), make([]byte, n)
	for i := range few {
		few[i] = byte(rnd.Intn(3))
		steps[i] = byte(5*(i/8%w) + 3*(i/8/w) + rnd.Intn(2))
	}
	return append(list, string(few), string(steps))
}

// wantBack wants that Encode of a raster is a PNG of it, in its three chunks, that is not too big, also for the library.
func wantBack(t *testing.T, r api.Raster) {
	t.Helper()
	file := encoded(t, r)
	if len(file) > most {
		t.Errorf("Encode(%s) has %d bytes", short(r), len(file))
	}
	wantRaster(t, "there and back", file, r)
	if got := rasterOf(pictureIn(t, file)); got != r {
		t.Errorf("%s: the library reads %s", short(r), short(got))
	}
	wantParts(t, r, file)
}

// P13.2, P13.3: the parts of what Encode returns, and Decode of it, for rasters of many sizes and kinds, also of bytes without a rule.
func TestThereAndBack(t *testing.T) {
	rnd := rand.New(rand.NewSource(135))
	for w := 1; w <= 1024; w += 1 + 2*w/3 {
		for h := 1; h <= 1024 && w*h <= 4096; h += 1 + 2*h/3 {
			for _, pix := range contents(rnd, w, h) {
				wantBack(t, api.Raster{W: w, H: h, Pix: pix})
			}
		}
	}
	for _, size := range [][2]int{{64, 64}, {1024, 4}, {4, 1024}, {1, 1024}, {1024, 1}, {63, 65}} {
		for _, pix := range contents(rnd, size[0], size[1]) {
			wantBack(t, api.Raster{W: size[0], H: size[1], Pix: pix})
		}
	}
}

// P13.1, P13.3: images of each format, interlaced and not, with and without a transparency: Decode, the library and the samples say the same, and Encode of it is a PNG of the same raster.
func TestFormats(t *testing.T) {
	rnd := rand.New(rand.NewSource(136))
	for _, f := range formats() {
		for _, size := range [][2]int{{1, 1}, {5, 1}, {1, 5}, {3, 2}, {9, 7}, {17, 19}, {1024, 4}} {
			for lace := range 2 {
				for _, s := range f.shapes(size[0], size[1], lace) {
					p := pictureOf(rnd, s, f, 1<<rnd.Intn(f.depth+1))
					stream := wrapped(p.data())
					at := rnd.Intn(len(stream) + 1)
					file := pngOf(s, stream[:at], "", stream[at:])
					want := p.raster()
					wantRaster(t, "a format", file, want)
					if got := rasterOf(pictureIn(t, pngOf(s, stream))); got != want {
						t.Errorf("%s: the library reads %s, not %s", short(s), short(got), short(want))
					}
					r, _ := png.Decode(file)
					wantBack(t, r)
				}
			}
		}
	}
}

// pictureIn is the picture that the library reads from a file.
func pictureIn(t *testing.T, file string) image.Image {
	t.Helper()
	m, err := library.Decode(strings.NewReader(file))
	if err != nil {
		t.Fatalf("%s: %v", short(file), err)
	}
	return m
}

// rasterOf is a picture of the library as a raster.
func rasterOf(m image.Image) api.Raster {
	box := m.Bounds()
	var pix strings.Builder
	for y := box.Min.Y; y < box.Max.Y; y++ {
		for x := box.Min.X; x < box.Max.X; x++ {
			pix.WriteString(libraryPixel(m.At(x, y)))
		}
	}
	return api.Raster{W: box.Dx(), H: box.Dy(), Pix: pix.String()}
}

// libraryPixel is a colour of the library, whose channels are not multiplied by alpha.
func libraryPixel(c color.Color) string {
	switch c := c.(type) {
	case color.NRGBA:
		return channels(uint32(c.R)*257, uint32(c.G)*257, uint32(c.B)*257, uint32(c.A)*257)
	case color.NRGBA64:
		return channels(uint32(c.R), uint32(c.G), uint32(c.B), uint32(c.A))
	}
	return channels(c.RGBA()) // a colour without transparency
}

// channels is a pixel of a raster.
func channels(red, green, blue, alpha uint32) string {
	var pixel []byte
	for _, v := range []uint32{red, green, blue, alpha} {
		pixel = append(pixel, byte(v>>8), byte(v))
	}
	return string(pixel)
}

// written are pictures of the library, in the kinds that it writes in different formats, with the pixels of of.
func written(w, h int, of func() color.NRGBA64) []image.Image {
	box := image.Rect(0, 0, w, h)
	var clear, plain color.Palette
	for range 256 {
		c := color.NRGBAModel.Convert(of()).(color.NRGBA)
		clear = append(clear, c)
		c.A = 255
		plain = append(plain, c)
	}
	list := []image.Image{image.NewGray(box), image.NewGray16(box), image.NewNRGBA(box), image.NewNRGBA64(box), image.NewRGBA(box), image.NewRGBA64(box)}
	for _, n := range []int{2, 4, 16, 256} {
		list = append(list, image.NewPaletted(box, plain[:n]), image.NewPaletted(box, clear[:n]))
	}
	for i, m := range list {
		for at := range w * h {
			c := of()
			if i == 4 || i == 5 {
				c.A = 65535 // the library writes these without alpha
			}
			if m, ok := m.(*image.Paletted); ok {
				m.Pix[at] = byte(int(c.R) % len(m.Palette))
				continue
			}
			m.(interface{ Set(x, y int, c color.Color) }).Set(at%w, at/w, c)
		}
	}
	return list
}

// P13.1, P13.3: Decode reads the pixels of what the library writes, in each format of it and at each of its levels.
func TestLibraryWrites(t *testing.T) {
	rnd := rand.New(rand.NewSource(137))
	of := func() color.NRGBA64 {
		return color.NRGBA64{R: uint16(rnd.Intn(65536)), G: uint16(rnd.Intn(65536)), B: uint16(rnd.Intn(65536)), A: uint16(rnd.Intn(65536))}
	}
	seen := map[[2]int]bool{}
	for _, size := range [][2]int{{1, 1}, {5, 1}, {1, 5}, {9, 7}, {61, 59}} {
		for _, m := range written(size[0], size[1], of) {
			for _, level := range []library.CompressionLevel{library.DefaultCompression, library.NoCompression, library.BestSpeed, library.BestCompression} {
				var file bytes.Buffer
				encoder := library.Encoder{CompressionLevel: level}
				if err := encoder.Encode(&file, m); err != nil {
					t.Fatal(err)
				}
				wantRaster(t, "the library's", file.String(), rasterOf(m))
				chunks, _ := chunk.Split(file.String())
				s, _, _ := head.Read(chunks...)
				seen[[2]int{s.Colour, s.Depth}] = true
			}
			wantBack(t, rasterOf(m))
		}
	}
	if len(seen) < 10 {
		t.Errorf("only the formats %v", seen)
	}
}

// R2: what is returned is new, and no part of what is passed in.
func TestResultsAreNew(t *testing.T) {
	inside := func(s, text string) bool {
		at, from := uintptr(unsafe.Pointer(unsafe.StringData(s))), uintptr(unsafe.Pointer(unsafe.StringData(text)))
		return at >= from && at < from+uintptr(len(text))
	}
	r := api.Raster{W: 64, H: 1, Pix: noise(1, 8*64)}
	file := encoded(t, r)
	got, _ := png.Decode(file)
	again, _ := png.Decode(file)
	if inside(file, r.Pix) || inside(r.Pix, file) || inside(got.Pix, file) || inside(file, got.Pix) || inside(got.Pix, again.Pix) {
		t.Error("a result is a part of something else")
	}
}

// R3: a call does not depend on those before it.
func TestCallsAreApart(t *testing.T) {
	for range 3 {
		wantRaster(t, "two", pair(wrapped("\x00ab")), greys('a', 'b'))
		wantError(t, "one byte less", pair(wrapped("\x00a")), api.ErrShort)
		wantError(t, "one byte more", pair(wrapped("\x00abc")), api.ErrLong)
		wantRefused(t, api.Raster{W: 1, H: 1}, api.ErrHead)
		wantBack(t, greys('c', 'd', 'e'))
		wantError(t, "nothing", "", api.ErrSign)
		wantRefused(t, api.Raster{W: 1025, H: 1}, api.ErrBig)
		wantRaster(t, "one", pngOf(grey(1, 1), wrapped("\x00a")), greys('a'))
	}
}
