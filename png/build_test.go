package png_test

import (
	"bytes"
	"compress/flate"
	library "compress/zlib"
	"encoding/binary"
	"fmt"
	"hash/adler32"
	"hash/crc32"
	"io"
	"math/rand"
	"strings"
	"testing"

	"vitrine/api"
	"vitrine/filter"
	"vitrine/lace"
	"vitrine/png"
	"vitrine/samples"
)

const (
	signature = "\x89PNG\r\n\x1a\n"
	ending    = "\x00\x00\x00\x00IEND\xaeB`\x82" // the chunk IEND
	most      = 65536                            // bytes of a file
)

// number is a number in 4 bytes.
func number(n uint32) string { return string(binary.BigEndian.AppendUint32(nil, n)) }

// laid is a chunk as it is in a file.
func laid(kind, data string) string {
	return number(uint32(len(data))) + kind + data + number(crc32.ChecksumIEEE([]byte(kind+data)))
}

// fileOf is a file of chunks that are laid.
func fileOf(chunks ...string) string { return signature + strings.Join(chunks, "") }

// headData is the data of an IHDR.
func headData(w, h uint32, depth, colour, lace int) string {
	return number(w) + number(h) + string([]byte{byte(depth), byte(colour), 0, 0, byte(lace)})
}

// shapeChunks is the chunks of a shape, laid.
func shapeChunks(s api.Shape) string {
	text := laid("IHDR", headData(uint32(s.W), uint32(s.H), s.Depth, s.Colour, s.Lace))
	if s.Palette != "" {
		text += laid("PLTE", s.Palette)
	}
	if s.HasTrans {
		text += laid("tRNS", s.Trans)
	}
	return text
}

// pngOf is a file of an image with these streams as the data of its IDATs.
func pngOf(s api.Shape, streams ...string) string {
	text := shapeChunks(s)
	for _, stream := range streams {
		text += laid("IDAT", stream)
	}
	return fileOf(text, ending)
}

// sum is the Adler-32 of text as the library has it.
func sum(text string) string { return number(adler32.Checksum([]byte(text))) }

// framed is text as a stream of these bytes, with a head and a sum.
func framed(stream, text string) string { return "\x78\x9c" + stream + sum(text) }

// deflated is text as a stream of the library.
func deflated(text string, level int) string {
	var b bytes.Buffer
	w, err := flate.NewWriter(&b, level)
	if err != nil {
		panic(err)
	}
	io.WriteString(w, text)
	w.Close()
	return b.String()
}

// levels are those of the library at which it writes stored blocks, fixed and dynamic ones without matches, and those with matches.
func levels() []int { return []int{flate.NoCompression, flate.HuffmanOnly, flate.BestCompression} }

// wrapped is text as a stream of the library with a head and a sum.
func wrapped(text string) string { return framed(deflated(text, flate.BestCompression), text) }

// unwrapped is what a stream says, as the library reads it.
func unwrapped(t *testing.T, stream string) string {
	t.Helper()
	r, err := library.NewReader(strings.NewReader(stream))
	if err != nil {
		t.Fatal(err)
	}
	text, err := io.ReadAll(r)
	if err != nil {
		t.Fatal(err)
	}
	return string(text)
}

// noise is n bytes without a rule.
func noise(seed, n int) string {
	b := make([]byte, n)
	rand.New(rand.NewSource(int64(seed))).Read(b)
	return string(b)
}

// format is a colour type and one of its depths, and how many samples a pixel has.
type format struct{ colour, depth, samples int }

// formats are all that there are.
func formats() []format {
	return []format{
		{api.Grey, 1, 1}, {api.Grey, 2, 1}, {api.Grey, 4, 1}, {api.Grey, 8, 1}, {api.Grey, 16, 1},
		{api.RGB, 8, 3}, {api.RGB, 16, 3},
		{api.Palette, 1, 1}, {api.Palette, 2, 1}, {api.Palette, 4, 1}, {api.Palette, 8, 1},
		{api.GreyA, 8, 2}, {api.GreyA, 16, 2},
		{api.RGBA, 8, 4}, {api.RGBA, 16, 4},
	}
}

// shape is one of this format, with a palette of all colours if it has one.
func (f format) shape(w, h, lace int) api.Shape {
	s := api.Shape{Head: api.Head{W: w, H: h, Depth: f.depth, Colour: f.colour, Lace: lace}}
	if f.colour == api.Palette {
		s.Palette = noise(f.depth, 3<<f.depth)
	}
	return s
}

// shapes are those of this format without a transparency, and with each kind of one.
func (f format) shapes(w, h, lace int) []api.Shape {
	s := f.shape(w, h, lace)
	list := []api.Shape{s}
	switch f.colour {
	case api.Grey:
		list = append(list, withTrans(s, "\x00\x01"), withTrans(s, "\x00\x00"))
	case api.RGB:
		list = append(list, withTrans(s, "\x00\x01\x00\x00\x00\x01"))
	case api.Palette:
		list = append(list, withTrans(s, "\x00"), withTrans(s, "\x80\x07"), withTrans(s, ""))
	}
	return list
}

// withTrans is a shape with a transparency.
func withTrans(s api.Shape, trans string) api.Shape {
	s.Trans, s.HasTrans = trans, true
	return s
}

// grey is the shape of an image with 8 bits a pixel.
func grey(w, h int) api.Shape { return format{api.Grey, 8, 1}.shape(w, h, 0) }

// greys is the raster of one row of these bytes of grey.
func greys(list ...byte) api.Raster {
	r := api.Raster{W: len(list), H: 1}
	for _, b := range list {
		r.Pix += strings.Repeat(string([]byte{b}), 6) + "\xff\xff"
	}
	return r
}

// picture is an image with the samples of each of its pixels, row by row.
type picture struct {
	shape   api.Shape
	samples [][]int
}

// pictureOf is a picture with samples below a number.
func pictureOf(rnd *rand.Rand, s api.Shape, f format, below int) picture {
	p := picture{shape: s}
	for range s.W * s.H {
		list := make([]int, f.samples)
		for i := range list {
			list[i] = rnd.Intn(below)
		}
		p.samples = append(p.samples, list)
	}
	return p
}

// data is the image data of a picture, with each type of filter in turn.
func (p picture) data() string {
	var data strings.Builder
	kind := 0
	for _, pass := range lace.Passes(p.shape.Head) {
		above := ""
		for y := range pass.H {
			var list []int
			for x := range pass.W {
				list = append(list, p.samples[(pass.Y+y*pass.DY)*p.shape.W+pass.X+x*pass.DX]...)
			}
			line, _ := samples.Pack(p.shape.Depth, list...)
			row, e := filter.Do(lace.Row(p.shape.Head, 1), kind, line, above)
			if e != api.OK {
				panic(e)
			}
			data.WriteString(string([]byte{byte(kind)}) + row)
			above, kind = line, (kind+1)%5
		}
	}
	return data.String()
}

// raster is the raster of a picture, without regard to its data.
func (p picture) raster() api.Raster {
	var pix strings.Builder
	for _, list := range p.samples {
		one, e := samples.Pixel(p.shape, list...)
		if e != api.OK {
			panic(e)
		}
		pix.WriteString(one)
	}
	return api.Raster{W: p.shape.W, H: p.shape.H, Pix: pix.String()}
}

// short is the beginning of a value as text.
func short(v any) string {
	text := fmt.Sprintf("%+v", v)
	switch v := v.(type) {
	case string:
		text = fmt.Sprintf("%d bytes %x", len(v), v)
	case api.Raster:
		text = fmt.Sprintf("%d by %d, %d bytes %x", v.W, v.H, len(v.Pix), v.Pix)
	case api.Shape:
		text = fmt.Sprintf("%+v, palette of %d bytes, transparency %x %v", v.Head, len(v.Palette), v.Trans, v.HasTrans)
	}
	if len(text) > 300 {
		return text[:300] + ".."
	}
	return text
}

// check holds what Decode returns against what is wanted.
func check(t *testing.T, name, file string, want api.Raster, wantE api.Errno) {
	t.Helper()
	got, e := png.Decode(file)
	if got != want || e != wantE {
		t.Errorf("%s: Decode(%s) is %s, %d, not %s, %d", name, short(file), short(got), e, short(want), wantE)
	}
}

// wantRaster wants that Decode returns a raster.
func wantRaster(t *testing.T, name, file string, want api.Raster) {
	t.Helper()
	check(t, name, file, want, api.OK)
}

// wantError wants that Decode returns an error, and nothing beside it.
func wantError(t *testing.T, name, file string, want api.Errno) {
	t.Helper()
	check(t, name, file, api.Raster{}, want)
}

// wantRefused wants that Encode returns an error, and nothing beside it.
func wantRefused(t *testing.T, r api.Raster, want api.Errno) {
	t.Helper()
	if file, e := png.Encode(r); file != "" || e != want {
		t.Errorf("Encode(%s) is %s, %d, not %d", short(r), short(file), e, want)
	}
}

// encoded is what Encode returns for a raster that is right.
func encoded(t *testing.T, r api.Raster) string {
	t.Helper()
	file, e := png.Encode(r)
	if e != api.OK {
		t.Errorf("Encode(%s) returns %d", short(r), e)
	}
	return file
}
