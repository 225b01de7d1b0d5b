package png_test

import (
	"compress/flate"
	"slices"
	"strings"
	"testing"

	"vitrine/api"
	"vitrine/deflate"
)

// packed is bits, written as 0 and 1 in the order of the stream, with zero bits up to a whole byte.
func packed(parts ...string) string {
	digits := strings.Join(parts, "")
	b := make([]byte, (len(digits)+7)/8)
	for i, digit := range digits {
		if digit == '1' {
			b[i/8] |= 1 << (i % 8)
		}
	}
	return string(b)
}

// faulty is the data of IDATs and the error that they are.
type faulty struct {
	name, stream string
	want         api.Errno
}

// wrongStreams has each error of zlib.Unwrap for data of at most 3 bytes, ErrBig as ErrLong.
func wrongStreams() []faulty {
	const dynamic = "1" + "01" + "00000" + "00000" + "0000" // 4 lengths of the small code
	const text = "\x00ab"
	right := deflate.Fixed(text)
	return []faulty{
		{"nothing", "", api.ErrEnd},
		{"one byte", "\x78", api.ErrEnd},
		{"one wrong byte", "x", api.ErrEnd},
		{"another method", "\x77\x09" + right + sum(text), api.ErrZlib},
		{"a window that is too big", "\x88\x1c" + right + sum(text), api.ErrZlib},
		{"no multiple of 31", "\x78\x02" + right + sum(text), api.ErrZlib},
		{"a dictionary", "\x78\x20" + right + sum(text), api.ErrZlib},
		{"a wrong head alone", "xy", api.ErrZlib},
		{"a head alone", "\x78\x01", api.ErrEnd},
		{"stored bytes are missing", "\x78\x01\x01\x03\x00\xfc\xff\x00a", api.ErrEnd},
		{"symbols are missing", "\x78\x01" + right[:len(right)-1], api.ErrEnd},
		{"kind 3", framed("\x07", text), api.ErrBlock},
		{"stored numbers that differ", framed("\x01\x03\x00\xfc\xfe\x00ab", text), api.ErrStored},
		{"too many code words", framed(packed(dynamic, strings.Repeat("100", 4)), text), api.ErrOver},
		{"too few code words", framed(packed(dynamic, "010", strings.Repeat("000", 3)), text), api.ErrLess},
		{"no code word", framed(packed(dynamic, strings.Repeat("000", 4)), text), api.ErrCode},
		{"the symbol 286", framed(packed("1", "10", "11000110"), text), api.ErrCode},
		{"a distance ahead of the beginning", framed(packed("1", "10", "0000001", "00000"), text), api.ErrFar},
		{"a literal too many", framed(deflate.Fixed("\x00abc"), "\x00abc"), api.ErrLong},
		{"a match that is too long", framed(deflate.Fixed("\x00\x00\x00\x00"), "\x00\x00\x00\x00"), api.ErrLong},
		{"a stored byte too many", framed(deflate.Stored("\x00abc"), "\x00abc"), api.ErrLong},
		{"a block too many", framed("\x00\x03\x00\xfc\xff\x00ab"+"\x01\x01\x00\xfe\xffc", "\x00abc"), api.ErrLong},
		{"a literal too many, then kind 3", framed("\x00\x04\x00\xfb\xff\x00abc\x07", "\x00abc"), api.ErrLong},
		{"no sum", "\x78\x01" + right, api.ErrEnd},
		{"a part of a sum", "\x78\x01" + right + sum(text)[:3], api.ErrEnd},
		{"another sum", framed(right, "\x00ac"), api.ErrSum},
		{"another sum and more", framed(right, "\x00ac") + "x", api.ErrSum},
		{"a byte behind it", framed(right, text) + "\x00", api.ErrMore},
		{"it stands there twice", framed(right, text) + framed(right, text), api.ErrMore},
	}
}

// P13.1: each error of zlib.Unwrap, in one IDAT and in several.
func TestErrorsOfStreams(t *testing.T) {
	seen := map[api.Errno]bool{}
	for _, c := range wrongStreams() {
		wantError(t, c.name, pair(c.stream), c.want)
		wantError(t, c.name+", cut in two", pair(c.stream[:len(c.stream)/2], c.stream[len(c.stream)/2:]), c.want)
		wantError(t, c.name+", and nothing", pair("", c.stream, ""), c.want)
		seen[c.want] = true
	}
	if len(seen) != 11 {
		t.Errorf("only %d errors", len(seen))
	}
}

// blocks is text as a stream of each kind of block.
func blocks(text string) []string {
	list := []string{deflate.Stored(text), deflate.Fixed(text), deflate.Dynamic(text)}
	for _, level := range levels() {
		list = append(list, deflated(text, level))
	}
	return list
}

// P13.1: a stream that says just as many bytes as the image has, fewer and more, in each kind of block, for images of all formats.
func TestLengthsOfData(t *testing.T) {
	for _, f := range formats() {
		for _, size := range [][2]int{{1, 1}, {3, 2}, {9, 7}, {13, 40}} {
			for lace := range 2 {
				s := f.shape(size[0], size[1], lace)
				p := picture{shape: s, samples: slices.Repeat([][]int{make([]int, f.samples)}, s.W*s.H)}
				data := p.data()
				for _, stream := range blocks(data) {
					wantRaster(t, "just so many", pngOf(s, framed(stream, data)), p.raster())
				}
				for _, n := range []int{1, 2, len(data) / 2, len(data)} {
					few, many := data[:len(data)-n], data+strings.Repeat("\x00", n)
					for _, stream := range blocks(few) {
						wantError(t, "fewer", pngOf(s, framed(stream, few)), api.ErrShort)
					}
					for _, stream := range blocks(many) {
						wantError(t, "more", pngOf(s, framed(stream, many)), api.ErrLong)
					}
				}
			}
		}
	}
}

// P13.1: streams that say very many bytes more, in files that are not too big.
func TestManyMoreBytes(t *testing.T) {
	for _, n := range []int{255, 256, 32768, most - 3, most - 2, most - 1, most, 1 << 20, 60000000} {
		text := "\x00ab" + strings.Repeat("\x00", n)
		file := pair(wrapped(text))
		if len(file) > most {
			t.Fatal(n, len(file))
		}
		wantError(t, "many more", file, api.ErrLong)
	}
	text := "\x00ab" + noise(3, most-200)
	wantError(t, "many more, stored", pair(framed(deflated(text, flate.NoCompression), text)), api.ErrLong)
	text = strings.Repeat("\x00", 64*65+1)
	wantError(t, "one more than the image with most rows", pngOf(grey(64, 64), wrapped(text)), api.ErrLong)
	deep := format{api.RGBA, 16, 4}.shape(4, 1024, 0)
	text = strings.Repeat("\x00", 1024*33)
	wantRaster(t, "the greatest data", pngOf(deep, wrapped(text)), api.Raster{W: 4, H: 1024, Pix: strings.Repeat("\x00", 32768)})
	wantError(t, "one less", pngOf(deep, wrapped(text[1:])), api.ErrShort)
	wantError(t, "one more", pngOf(deep, wrapped(text+"\x00")), api.ErrLong)
}

// P13.1: what is too long is told ahead of what is wrong behind it, and what is wrong ahead of it first.
func TestLongAndMore(t *testing.T) {
	const text = "\x00abc"
	for _, stream := range blocks(text) {
		for _, tail := range []string{"", "\x00", sum(text)[:3], sum("\x00ab"), "\x00\x00\x00\x00", sum(text) + "x", sum("\x00ab") + "x"} {
			wantError(t, "behind it", pair("\x78\x01"+stream+tail), api.ErrLong)
		}
		wantError(t, "ahead of it", pair("\x78\x02"+stream+sum(text)), api.ErrZlib)
		s := grey(2, 1)
		s.Lace = 1 // 4 bytes
		wantError(t, "just so many, and another sum", pngOf(s, framed(stream, "\x00abd")), api.ErrSum)
		wantError(t, "just so many, and more", pngOf(s, framed(stream, text)+"x"), api.ErrMore)
		wantError(t, "fewer, and another sum", pngOf(grey(9, 9), framed(stream, "\x00abd")), api.ErrSum)
		wantError(t, "fewer, and more", pngOf(grey(9, 9), framed(stream, text)+"x"), api.ErrMore)
		wantError(t, "fewer, and no sum", pngOf(grey(9, 9), "\x78\x01"+stream), api.ErrEnd)
	}
	wantError(t, "cut off ahead of the byte too many", pair("\x78\x01"+deflate.Stored(text)[:8]), api.ErrEnd)
	wantError(t, "kind 3 ahead of it", pair(framed("\x00\x03\x00\xfc\xff\x00ab\x07", text)), api.ErrBlock)
}

// P13.1: each error of pixel.Image that is left: data that are too short, a wrong type of filter, a place that the palette does not have.
func TestErrorsOfImages(t *testing.T) {
	s := format{api.Palette, 8, 1}.shape(2, 2, 0)
	s.Palette = "abcdef"
	for data, want := range map[string]api.Errno{
		"":                         api.ErrShort,
		"\x00":                     api.ErrShort,
		"\x00\x00\x01\x00\x01":     api.ErrShort,
		"\x05\x02\x00\x00\x00":     api.ErrShort,
		"\x05\x00\x00\x00\x00\x00": api.ErrFilter,
		"\x00\x00\x00\x05\x00\x00": api.ErrFilter,
		"\xff\x02\x00\x00\x00\x00": api.ErrFilter,
		"\x00\x02\x00\x00\x00\x00": api.ErrIndex,
		"\x00\x00\x00\x00\x00\xff": api.ErrIndex,
		"\x00\x00\x02\x05\x00\x00": api.ErrIndex,
		"\x00\x00\x01\x05\x00\x02": api.ErrFilter,
		"\x01\x01\x01\x00\x00\x00": api.ErrIndex, // 1 and 1 more
	} {
		for _, stream := range blocks(data) {
			wantError(t, "a wrong image", pngOf(s, framed(stream, data)), want)
		}
	}
	wantRaster(t, "a right one", pngOf(s, wrapped("\x01\x01\x00\x02\x00\xff")), api.Raster{W: 2, H: 2, Pix: "ddeeff\xff\xffddeeff\xff\xffddeeff\xff\xffaabbcc\xff\xff"})
	for _, f := range formats() {
		for lace := range 2 {
			s := f.shape(5, 4, lace)
			p := picture{shape: s, samples: slices.Repeat([][]int{make([]int, f.samples)}, 20)}
			data := p.data()
			wantError(t, "no data", pngOf(s, wrapped("")), api.ErrShort)
			wantError(t, "a byte less", pngOf(s, wrapped(data[1:])), api.ErrShort)
			for _, kind := range []string{"\x05", "\x80", "\xff"} {
				wantError(t, "a wrong filter", pngOf(s, wrapped(kind+data[1:])), api.ErrFilter)
			}
		}
	}
}

// P13.1: data that are cut between IDATs at any place, and at any two places, also into IDATs without data.
func TestCutData(t *testing.T) {
	want := greys('a', 'b')
	for _, data := range blocks("\x01a\x01") {
		stream := framed(data, "\x01a\x01")
		for i := range len(stream) + 1 {
			wantRaster(t, "two", pair(stream[:i], stream[i:]), want)
			for j := i; j <= len(stream); j++ {
				wantRaster(t, "three", pair(stream[:i], stream[i:j], stream[j:]), want)
				wantRaster(t, "and empty ones", pair("", stream[:i], "", "", stream[i:j], stream[j:], ""), want)
			}
		}
		bytes := apart(stream)
		wantRaster(t, "a byte each", pair(bytes...), want)
		wantError(t, "a byte each, and one more", pair(append(bytes, "\x00")...), api.ErrMore)
		wantError(t, "a byte each, and one less", pair(bytes[:len(bytes)-1]...), api.ErrEnd)
	}
}

// apart is the bytes of a text, each by itself.
func apart(text string) []string {
	list := make([]string, len(text))
	for i := range list {
		list[i] = text[i : i+1]
	}
	return list
}

// P13.1: cut data of which a part is missing or too much, or stands in another order.
func TestWrongParts(t *testing.T) {
	stream := wrapped("\x01a\x01")
	for i := range len(stream) + 1 {
		first, last := stream[:i], stream[i:]
		wantError(t, "a byte behind it", pair(first, last+"x"), api.ErrMore)
		wantError(t, "a byte behind it, apart", pair(first, last, "x"), api.ErrMore)
		wantError(t, "the whole behind it", pair(first, last, stream), api.ErrMore)
		if first != "" {
			wantError(t, "the first part behind it", pair(stream, first), api.ErrMore)
			wantError(t, "no first part", pair(last), wrongStart(last))
		}
		if last != "" {
			wantError(t, "no last part", pair(first), api.ErrEnd)
			wantError(t, "no last part, and nothing", pair("", first, ""), api.ErrEnd)
		}
	}
	wantError(t, "the head in another order", pair(stream[1:2], stream[:1], stream[2:]), api.ErrZlib)
	wantError(t, "the sum in another order", pair(stream[:len(stream)-2], stream[len(stream)-1:], stream[len(stream)-2:len(stream)-1]), api.ErrSum)
}

// wrongStart is the error of a stream whose first two bytes, if it has them, are no head.
func wrongStart(stream string) api.Errno {
	if len(stream) < 2 {
		return api.ErrEnd
	}
	return api.ErrZlib
}
