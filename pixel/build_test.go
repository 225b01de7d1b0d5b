package pixel_test

import (
	"fmt"
	"math"
	"math/big"
	"math/rand"
	"strconv"
	"strings"
	"testing"

	"vitrine/api"
	"vitrine/pixel"
)

// format is a colour type and one of its depths, and how many samples a pixel has.
type format struct{ colour, depth, samples int }

// formats are all that there are.
func formats() []format {
	return []format{
		{api.Grey, 1, 1}, {api.Grey, 2, 1}, {api.Grey, 4, 1}, {api.Grey, 8, 1}, {api.Grey, 16, 1},
		{api.RGB, 8, 3}, {api.RGB, 16, 3},
		{api.Palette, 1, 1}, {api.Palette, 2, 1}, {api.Palette, 4, 1}, {api.Palette, 8, 1},
		{api.GreyA, 8, 2}, {api.GreyA, 16, 2},
		{api.RGBA, 8, 4}, {api.RGBA, 16, 4},
	}
}

// formatOf is the format of a header, and whether there is such a one.
func formatOf(h api.Head) (format, bool) {
	for _, f := range formats() {
		if f.colour == h.Colour && f.depth == h.Depth {
			return f, true
		}
	}
	return format{}, false
}

// shape is one of this format, with a palette of all colours if it has one.
func (f format) shape(w, h, lace int) api.Shape {
	s := api.Shape{Head: api.Head{W: w, H: h, Depth: f.depth, Colour: f.colour, Lace: lace}}
	if f.colour == api.Palette {
		s.Palette = noise(f.depth, 3<<f.depth)
	}
	return s
}

// shapes are those of this format without a transparency, and with each kind of one.
func (f format) shapes(w, h, lace int) []api.Shape {
	s := f.shape(w, h, lace)
	list := []api.Shape{s}
	switch f.colour {
	case api.Grey:
		list = append(list, withTrans(s, "\x00\x01"), withTrans(s, "\x00\x00"))
	case api.RGB:
		list = append(list, withTrans(s, "\x00\x01\x00\x00\x00\x01"))
	case api.Palette:
		list = append(list, withTrans(s, "\x00"), withTrans(s, "\x80\x07"))
	}
	return list
}

// withTrans is a shape with a transparency.
func withTrans(s api.Shape, trans string) api.Shape {
	s.Trans, s.HasTrans = trans, true
	return s
}

// withPalette is a shape with another palette.
func withPalette(s api.Shape, palette string) api.Shape {
	s.Palette = palette
	return s
}

// grey is a shape of an image with 8 bits a pixel.
func grey(w, h, lace int) api.Shape { return format{api.Grey, 8, 1}.shape(w, h, lace) }

// noise is n bytes without a rule.
func noise(seed, n int) string {
	b := make([]byte, n)
	rand.New(rand.NewSource(int64(seed))).Read(b)
	return string(b)
}

// far are numbers whose lowest bytes are those of a small one, and the ends of the kinds of integers.
func far(n int) []int {
	return []int{n + 1<<8, n - 1<<8, n + 1<<16, n + 1<<31, n + 1<<32, n - 1<<32, n + 1<<40, n + 1<<62, math.MinInt + n, math.MaxInt - n, math.MinInt32 + n, math.MaxInt32 - n}
}

// sidesModel is the error of a width and a height, in the words of the chapters.
func sidesModel(w, h int) api.Errno {
	area := new(big.Int).Mul(big.NewInt(int64(w)), big.NewInt(int64(h)))
	switch {
	case w < 1, h < 1, w > 2147483647, h > 2147483647:
		return api.ErrHead
	case w > 1024, h > 1024, area.Cmp(big.NewInt(4096)) > 0:
		return api.ErrBig
	}
	return api.OK
}

// checkModel is P12.1 in the chapter's words.
func checkModel(r api.Raster) api.Errno {
	if e := sidesModel(r.W, r.H); e != api.OK {
		return e
	}
	if len(r.Pix) != 8*r.W*r.H {
		return api.ErrHead
	}
	return api.OK
}

// headModel is the error of head.Right, in the words of its chapter.
func headModel(h api.Head) api.Errno {
	if _, ok := formatOf(h); !ok || h.Lace != 0 && h.Lace != 1 {
		return api.ErrHead
	}
	return sidesModel(h.W, h.H)
}

// row is one of an image's data.
type row struct {
	first bool     // of its pass
	at    [][2]int // the column and the row of each of its pixels in the image
}

// rowsOf are the rows of an image's data, in their order.
func rowsOf(h api.Head) []row {
	passes := [][4]int{{0, 0, 1, 1}}
	if h.Lace == 1 {
		passes = [][4]int{{0, 0, 8, 8}, {4, 0, 8, 8}, {0, 4, 4, 8}, {2, 0, 4, 4}, {0, 2, 2, 4}, {1, 0, 2, 2}, {0, 1, 1, 2}}
	}
	var rows []row
	for _, p := range passes {
		for y := p[1]; y < h.H && p[0] < h.W; y += p[3] {
			r := row{first: y == p[1]}
			for x := p[0]; x < h.W; x += p[2] {
				r.at = append(r.at, [2]int{x, y})
			}
			rows = append(rows, r)
		}
	}
	return rows
}

// bytesOf is how many bytes so many pixels in a row have.
func (f format) bytesOf(pixels int) int {
	bits := f.depth * f.samples * pixels
	if bits%8 > 0 {
		bits += 8 - bits%8
	}
	return bits / 8
}

// sizeOf is how many bytes an image's data has.
func sizeOf(h api.Head) int {
	f, _ := formatOf(h)
	size := 0
	for _, r := range rowsOf(h) {
		size += 1 + f.bytesOf(len(r.at))
	}
	return size
}

// predicted is what a type of filter predicts for the byte at a place of a row, in the words of the chapter of filters.
func predicted(bpp, kind, at int, line []byte, above string) byte {
	var a, b, c int
	if at >= bpp {
		a = int(line[at-bpp])
	}
	if above != "" {
		b = int(above[at])
		if at >= bpp {
			c = int(above[at-bpp])
		}
	}
	switch kind {
	case 1:
		return byte(a)
	case 2:
		return byte(b)
	case 3:
		return byte((a + b) / 2)
	case 4:
		best := a
		for _, v := range []int{b, c} {
			if math.Abs(float64(a+b-c-v)) < math.Abs(float64(a+b-c-best)) {
				best = v
			}
		}
		return byte(best)
	}
	return 0
}

// filtered is a row as its data has it, behind the type of filter.
func filtered(bpp, kind int, line, above string) string {
	data := []byte{byte(kind)}
	for i := range len(line) {
		data = append(data, line[i]-predicted(bpp, kind, i, []byte(line), above))
	}
	return string(data)
}

// unfiltered is the row that was filtered.
func unfiltered(bpp, kind int, data, above string) string {
	line := []byte(data)
	for i := range line {
		line[i] += predicted(bpp, kind, i, line, above)
	}
	return string(line)
}

// packed is a row of samples.
func packed(depth int, list []int) string {
	var text strings.Builder
	for _, v := range list {
		fmt.Fprintf(&text, "%0*b", depth, v)
	}
	for text.Len()%8 != 0 {
		text.WriteString("0")
	}
	var line []byte
	for bits := text.String(); bits != ""; bits = bits[8:] {
		v, _ := strconv.ParseUint(bits[:8], 2, 8)
		line = append(line, byte(v))
	}
	return string(line)
}

// unpacked is the first n samples of a row.
func unpacked(depth, n int, line string) []int {
	var text strings.Builder
	for i := range len(line) {
		fmt.Fprintf(&text, "%08b", line[i])
	}
	bits := text.String()
	var list []int
	for i := range n {
		v, _ := strconv.ParseUint(bits[depth*i:depth*(i+1)], 2, 16)
		list = append(list, int(v))
	}
	return list
}

// wide is a sample as one of 16 bits.
func wide(v, depth int) int { return v * 65535 / (1<<depth - 1) }

// channels is a pixel of a raster.
func channels(red, green, blue, alpha int) string {
	var pixel []byte
	for _, v := range []int{red, green, blue, alpha} {
		pixel = append(pixel, byte(v/256), byte(v%256))
	}
	return string(pixel)
}

// pixelModel is the pixel of samples that are within the depth, in the words of the chapter of samples.
func pixelModel(s api.Shape, list []int) (string, api.Errno) {
	at := func(i int) int { return wide(list[i], s.Depth) }
	last := len(list) - 1
	switch s.Colour {
	case api.GreyA:
		return channels(at(0), at(0), at(0), at(1)), api.OK
	case api.RGBA:
		return channels(at(0), at(1), at(2), at(3)), api.OK
	case api.Palette:
		first, alpha := 3*list[0], 65535
		if len(s.Palette) < first+3 {
			return "", api.ErrIndex
		}
		if s.HasTrans && len(s.Trans) > list[0] {
			alpha = 257 * int(s.Trans[list[0]])
		}
		return channels(257*int(s.Palette[first]), 257*int(s.Palette[first+1]), 257*int(s.Palette[first+2]), alpha), api.OK
	}
	alpha := 65535
	if s.HasTrans && len(s.Trans) == 2*len(list) {
		same := 0
		for i, v := range list {
			if (256*int(s.Trans[2*i])+int(s.Trans[2*i+1]))%(1<<s.Depth) == v {
				same++
			}
		}
		if same == len(list) {
			alpha = 0
		}
	}
	return channels(at(0), at(last/2), at(last), alpha), api.OK
}

// imageModel is P12.2 in the chapter's words.
func imageModel(s api.Shape, raw string) (api.Raster, api.Errno) {
	if e := headModel(s.Head); e != api.OK {
		return api.Raster{}, e
	}
	if len(raw) < sizeOf(s.Head) {
		return api.Raster{}, api.ErrShort
	}
	if len(raw) > sizeOf(s.Head) {
		return api.Raster{}, api.ErrLong
	}
	f, _ := formatOf(s.Head)
	pixels := make([]string, s.W*s.H)
	above := ""
	for _, r := range rowsOf(s.Head) {
		end := 1 + f.bytesOf(len(r.at))
		kind, data := int(raw[0]), raw[1:end]
		raw = raw[end:]
		if kind > 4 {
			return api.Raster{}, api.ErrFilter
		}
		if r.first {
			above = ""
		}
		above = unfiltered(f.bytesOf(1), kind, data, above)
		list := unpacked(s.Depth, f.samples*len(r.at), above)
		for i, at := range r.at {
			one, e := pixelModel(s, list[f.samples*i:f.samples*(i+1)])
			if e != api.OK {
				return api.Raster{}, e
			}
			pixels[at[1]*s.W+at[0]] = one
		}
	}
	return api.Raster{W: s.W, H: s.H, Pix: strings.Join(pixels, "")}, api.OK
}

// rowsModel is P12.3 in the chapter's words.
func rowsModel(r api.Raster) (string, api.Errno) {
	if e := checkModel(r); e != api.OK {
		return "", e
	}
	data, above := "", ""
	for y := range r.H {
		line := r.Pix[8*r.W*y : 8*r.W*(y+1)]
		data += filtered(8, pickModel(line, above), line, above)
		above = line
	}
	return data, api.OK
}

// pickModel is the type of filter for a row with 8 bytes a pixel, in the words of the chapter of filters.
func pickModel(line, above string) int {
	best, least := 0, -1
	for kind := range 5 {
		sum := 0
		for _, b := range []byte(filtered(8, kind, line, above)[1:]) {
			if b <= 128 {
				sum += int(b)
			} else {
				sum += 256 - int(b)
			}
		}
		if least < 0 || sum < least {
			best, least = kind, sum
		}
	}
	return best
}

// picture is an image with the samples of each of its pixels, row by row.
type picture struct {
	shape   api.Shape
	samples [][]int
}

// pictureOf is a picture with samples below a number.
func pictureOf(rnd *rand.Rand, s api.Shape, below int) picture {
	f, _ := formatOf(s.Head)
	p := picture{shape: s}
	for range s.W * s.H {
		list := make([]int, f.samples)
		for i := range list {
			list[i] = rnd.Intn(below)
		}
		p.samples = append(p.samples, list)
	}
	return p
}

// data is the image data of a picture, in which each row has the type of filter that kind tells of its number.
func (p picture) data(kind func(n int) int) string {
	f, _ := formatOf(p.shape.Head)
	data, above := "", ""
	for n, r := range rowsOf(p.shape.Head) {
		var list []int
		for _, at := range r.at {
			list = append(list, p.samples[at[1]*p.shape.W+at[0]]...)
		}
		if r.first {
			above = ""
		}
		line := packed(p.shape.Depth, list)
		data += filtered(f.bytesOf(1), kind(n), line, above)
		above = line
	}
	return data
}

// raster is the raster of a picture, without regard to its data.
func (p picture) raster() api.Raster {
	var pix strings.Builder
	for _, list := range p.samples {
		one, _ := pixelModel(p.shape, list)
		pix.WriteString(one)
	}
	return api.Raster{W: p.shape.W, H: p.shape.H, Pix: pix.String()}
}

// all is the same type of filter for each row.
func all(kind int) func(n int) int { return func(int) int { return kind } }

// mixed is each type of filter in turn.
func mixed(n int) int { return n % 5 }

// greys is the pixels of these bytes of grey.
func greys(list ...byte) string {
	pix := ""
	for _, b := range list {
		pix += strings.Repeat(string([]byte{b}), 6) + "\xff\xff"
	}
	return pix
}

// short is the beginning of a value as text.
func short(v any) string {
	text := fmt.Sprintf("%+v", v)
	switch v := v.(type) {
	case string:
		text = fmt.Sprintf("%d bytes %x", len(v), v)
	case api.Raster:
		text = fmt.Sprintf("%d by %d, %d bytes %x", v.W, v.H, len(v.Pix), v.Pix)
	case api.Shape:
		text = fmt.Sprintf("%+v, palette of %d bytes, transparency %x %v", v.Head, len(v.Palette), v.Trans, v.HasTrans)
	}
	if len(text) > 200 {
		return text[:200] + ".."
	}
	return text
}

// wantCheckOnly holds what Check returns against what is wanted.
func wantCheckOnly(t *testing.T, r api.Raster, want api.Errno) {
	t.Helper()
	if e := pixel.Check(r); e != want {
		t.Errorf("Check(%s) is %d, not %d", short(r), e, want)
	}
}

// wantCheck holds what Check returns against what is wanted, and the error of Rows as well.
func wantCheck(t *testing.T, r api.Raster, want api.Errno) {
	t.Helper()
	wantCheckOnly(t, r, want)
	data, e := pixel.Rows(r)
	if e != want {
		t.Errorf("Rows(%s) returns %d, not %d", short(r), e, want)
	}
	if e != api.OK && data != "" {
		t.Errorf("Rows(%s) returns %s beside %d", short(r), short(data), e)
	}
}

// wantImage holds what Image returns against what is wanted.
func wantImage(t *testing.T, s api.Shape, raw string, want api.Raster, wantE api.Errno) {
	t.Helper()
	got, e := pixel.Image(s, raw)
	if got != want || e != wantE {
		t.Errorf("Image(%s, %s) is %s, %d, not %s, %d", short(s), short(raw), short(got), e, short(want), wantE)
	}
}

// wantPix holds the pixels that Image returns against those that are wanted.
func wantPix(t *testing.T, s api.Shape, raw, want string) {
	t.Helper()
	wantImage(t, s, raw, api.Raster{W: s.W, H: s.H, Pix: want}, api.OK)
}

// wantError wants that Image returns an error, and nothing beside it.
func wantError(t *testing.T, s api.Shape, raw string, want api.Errno) {
	t.Helper()
	wantImage(t, s, raw, api.Raster{}, want)
}

// wantRows holds what Rows returns against what is wanted.
func wantRows(t *testing.T, r api.Raster, want string, wantE api.Errno) {
	t.Helper()
	got, e := pixel.Rows(r)
	if got != want || e != wantE {
		t.Errorf("Rows(%s) is %s, %d, not %s, %d", short(r), short(got), e, short(want), wantE)
	}
}

// imageLikeModel holds Image against the model.
func imageLikeModel(t *testing.T, s api.Shape, raw string) {
	t.Helper()
	want, e := imageModel(s, raw)
	wantImage(t, s, raw, want, e)
}

// rowsLikeModel holds Rows against the model.
func rowsLikeModel(t *testing.T, r api.Raster) {
	t.Helper()
	want, e := rowsModel(r)
	wantRows(t, r, want, e)
}
