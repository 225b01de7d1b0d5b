package png_test

import (
	"strings"
	"testing"

	"vitrine/api"
	"vitrine/deflate"
)

// pair is a file of two pixels of grey, a and b, whose image data are 3 bytes.
func pair(streams ...string) string { return pngOf(grey(2, 1), streams...) }

// P13.1: files of which each byte is worked out by hand.
func TestDecodeByHand(t *testing.T) {
	const one = "\x89PNG\r\n\x1a\n" +
		"\x00\x00\x00\x0dIHDR" + "\x00\x00\x00\x01\x00\x00\x00\x01\x08\x00\x00\x00\x00" + "\x3a\x7e\x9b\x55" +
		"\x00\x00\x00\x0dIDAT" + "\x78\x01" + "\x01\x02\x00\xfd\xff\x00\x80" + "\x00\x82\x00\x81" + "\xc3\x6e\x25\xe0" +
		"\x00\x00\x00\x00IEND" + "\xae\x42\x60\x82"
	wantRaster(t, "a pixel of grey", one, api.Raster{W: 1, H: 1, Pix: "\x80\x80\x80\x80\x80\x80\xff\xff"})
	wantRaster(t, "two pixels", pair(framed(deflate.Stored("\x00ab"), "\x00ab")), greys('a', 'b'))
	wantRaster(t, "a filter", pair(framed(deflate.Fixed("\x01a\x01"), "\x01a\x01")), greys('a', 'b'))

	s := format{api.RGB, 8, 3}.shape(2, 1, 0)
	wantRaster(t, "colours", pngOf(s, wrapped("\x00abcdef")), api.Raster{W: 2, H: 1, Pix: "aabbcc\xff\xffddeeff\xff\xff"})
	s = withTrans(s, "\x00d\x00e\x00f")
	wantRaster(t, "a transparent colour", pngOf(s, wrapped("\x00abcdef")), api.Raster{W: 2, H: 1, Pix: "aabbcc\xff\xffddeeff\x00\x00"})
	s = format{api.Palette, 1, 1}.shape(3, 1, 0)
	s.Palette, s.Trans, s.HasTrans = "abcdef", "\x80", true
	wantRaster(t, "a palette", pngOf(s, wrapped("\x00\x40")), api.Raster{W: 3, H: 1, Pix: "aabbcc\x80\x80ddeeff\xff\xffaabbcc\x80\x80"})
	s = grey(3, 2)
	s.Lace = 1
	r := greys('a', 'b', 'c', 'd', 'e', 'f')
	r.W, r.H = 3, 2
	wantRaster(t, "interlaced", pngOf(s, wrapped("\x00a"+"\x00c"+"\x00b"+"\x00def")), r)
}

// P13.1: the examples of the document.
func TestDecodeExamples(t *testing.T) {
	wantError(t, "nothing", "", api.ErrSign)
	for _, r := range []api.Raster{greys(1), greys(1, 2, 3), {W: 64, H: 64, Pix: noise(1, 8*4096)}} {
		file := encoded(t, r)
		wantError(t, "without its last 12 bytes", file[:len(file)-12], api.ErrEnd)
	}
}

// P13.1: files of 65536 bytes and of one more, which are right but for that, with bytes in excess at each place where they may be.
func TestSizesOfFiles(t *testing.T) {
	open, data := shapeChunks(grey(2, 1)), laid("IDAT", wrapped("\x00ab"))
	plain := len(fileOf(open, data, ending))
	for _, n := range []int{plain, plain + 12, most / 2, most - 1, most, most + 1, most + 2, 2 * most} {
		pad := ""
		if n > plain {
			pad = laid("tEXt", strings.Repeat("x", n-plain-12))
		}
		for _, file := range []string{fileOf(open, pad, data, ending), fileOf(open, data, pad, ending)} {
			if len(file) != n {
				t.Fatal(len(file), n)
			}
			if n <= most {
				wantRaster(t, "padded", file, greys('a', 'b'))
			} else {
				wantError(t, "padded", file, api.ErrBig)
			}
		}
	}
	for _, n := range []int{1, 7, 8, 9, most - 1, most} {
		wantError(t, "no PNG", strings.Repeat("x", n), api.ErrSign)
	}
	for _, n := range []int{most + 1, most + 2, 1 << 24} {
		wantError(t, "no PNG and too big", strings.Repeat("x", n), api.ErrBig)
		wantError(t, "no chunk and too big", signature+strings.Repeat("\xff", n-8), api.ErrBig)
	}
}

// P13.1: a file of 65536 bytes that are IDATs without data for the most part, and one of a byte more.
func TestManyChunks(t *testing.T) {
	open, data := shapeChunks(grey(2, 1)), laid("IDAT", wrapped("\x00ab"))
	free := most - len(fileOf(open, data, ending))
	empty := strings.Repeat(laid("IDAT", ""), free/12-1)
	pad := laid("tEXt", strings.Repeat("x", free-len(empty)-12))
	wantRaster(t, "ahead", fileOf(open, pad, empty, data, ending), greys('a', 'b'))
	wantRaster(t, "behind", fileOf(open, data, empty, pad, ending), greys('a', 'b'))
	pad = laid("tEXt", strings.Repeat("x", free-len(empty)-11))
	wantError(t, "ahead", fileOf(open, pad, empty, data, ending), api.ErrBig)
	wantError(t, "behind", fileOf(open, data, empty, pad, ending), api.ErrBig)
}

// P13.1: a file that is cut off anywhere, and one with bytes behind its end.
func TestCutOffFiles(t *testing.T) {
	for _, file := range []string{pair(wrapped("\x00ab")), pair(wrapped("\x00ab")[:5], "", wrapped("\x00ab")[5:]), encoded(t, greys(9, 8, 7))} {
		for n := range len(file) {
			switch {
			case n < len(signature):
				wantError(t, "cut off in the signature", file[:n], api.ErrSign)
			case n == len(signature):
				wantError(t, "no chunks", file[:n], api.ErrOrder)
			default:
				wantError(t, "cut off", file[:n], api.ErrEnd)
			}
		}
		for _, tail := range []string{"x", "IEND", "\x00\x00\x00\x00IEN", "\x00\x00\x00\x00IEND", ending[:11]} {
			wantError(t, "bytes behind it", file+tail, api.ErrEnd)
		}
		wantError(t, "a chunk behind it", file+ending, api.ErrMore)
	}
}

// P13.1: each error of chunk.Split, at each chunk of a file.
func TestErrorsOfChunks(t *testing.T) {
	chunks := []string{shapeChunks(grey(2, 1)), laid("tEXt", "abc"), laid("IDAT", wrapped("\x00ab")), ending}
	whole := fileOf(chunks...)
	wantRaster(t, "right", whole, greys('a', 'b'))
	for bit := range 8 * len(signature) {
		wantError(t, "another signature", flipped(whole, bit), api.ErrSign)
	}
	wantError(t, "no signature", whole[len(signature):], api.ErrSign)
	at := len(signature)
	for _, c := range chunks {
		for bit := 8 * (at + 8); bit < 8*(at+len(c)); bit++ {
			wantError(t, "another byte of the data or the sum", flipped(whole, bit), api.ErrCrc)
		}
		for i := at + 4; i < at+8; i++ {
			for _, b := range []string{"\x00", " ", "0", "@", "[", "`", "{", "\xc1", "\xff"} {
				wantError(t, "no type", whole[:i]+b+whole[i+1:], api.ErrChunk)
			}
			wantError(t, "another type", whole[:i]+"q"+whole[i+1:], api.ErrCrc)
		}
		for _, length := range []string{"\x80\x00\x00\x00", "\x80\x00\x00\x0d", "\xff\xff\xff\xff"} {
			wantError(t, "a length that is too great", whole[:at]+length+whole[at+4:], api.ErrChunk)
		}
		for _, length := range []string{"\x7f\xff\xff\xff", "\x00\x01\x00\x00", "\x00\x00\xff\xff"} {
			wantError(t, "a length that the file does not have", whole[:at]+length+whole[at+4:], api.ErrEnd)
		}
		at += len(c)
	}
}

// flipped is data with one bit changed.
func flipped(data string, bit int) string {
	b := []byte(data)
	b[bit/8] ^= 1 << (bit % 8)
	return string(b)
}

// wrongHeads is the error of head.Read for each header that is refused.
func wrongHeads() map[string]api.Errno {
	return map[string]api.Errno{
		"":                               api.ErrHead,
		headData(2, 1, 8, 0, 0)[:12]:     api.ErrHead,
		headData(2, 1, 8, 0, 0) + "\x00": api.ErrHead,
		"\x00\x00\x00\x02\x00\x00\x00\x01\x08\x00\x01\x00\x00": api.ErrHead,
		"\x00\x00\x00\x02\x00\x00\x00\x01\x08\x00\x00\x01\x00": api.ErrHead,
		headData(0, 1, 8, 0, 0):                                api.ErrHead,
		headData(2, 0, 8, 0, 0):                                api.ErrHead,
		headData(1<<31, 1, 8, 0, 0):                            api.ErrHead,
		headData(2, 1<<32-1, 8, 0, 0):                          api.ErrHead,
		headData(1<<31, 1025, 8, 0, 0):                         api.ErrHead,
		headData(2, 1, 8, 1, 0):                                api.ErrHead,
		headData(2, 1, 3, 0, 0):                                api.ErrHead,
		headData(2, 1, 4, 2, 0):                                api.ErrHead,
		headData(2, 1, 8, 0, 2):                                api.ErrHead,
		headData(1025, 1, 8, 0, 0):                             api.ErrBig,
		headData(1, 1025, 8, 0, 0):                             api.ErrBig,
		headData(64, 65, 8, 0, 1):                              api.ErrBig,
		headData(1<<31-1, 1<<31-1, 8, 0, 0):                    api.ErrBig,
	}
}

// wrongChunks are files whose chunks and headers are right, each by itself, with the error of head.Read.
func wrongChunks() map[string]api.Errno {
	list := map[string]api.Errno{}
	add := func(e api.Errno, chunks ...string) { list[fileOf(chunks...)] = e }
	head := func(depth, colour int) string { return laid("IHDR", headData(2, 1, depth, colour, 0)) }
	data := laid("IDAT", wrapped("\x00ab"))
	plte, trns := laid("PLTE", "abcdef"), laid("tRNS", "\x00a")

	add(api.ErrOrder)
	add(api.ErrOrder, ending)
	add(api.ErrOrder, data, ending)
	add(api.ErrOrder, laid("tEXt", ""), head(8, 0), data, ending)
	add(api.ErrOrder, head(8, 0), ending)
	add(api.ErrOrder, head(8, 0), head(8, 0), data, ending)
	add(api.ErrOrder, head(8, 0), data, laid("tEXt", ""), data, ending)
	add(api.ErrOrder, head(8, 2), plte, plte, data, ending)
	add(api.ErrOrder, head(8, 2), data, plte, ending)
	add(api.ErrOrder, head(8, 2), laid("tRNS", "abcdef"), plte, data, ending)
	add(api.ErrOrder, head(8, 0), trns, trns, data, ending)
	add(api.ErrOrder, head(8, 0), data, trns, ending)
	add(api.ErrOrder, head(8, 3), trns, plte, data, ending)
	add(api.ErrOrder, head(8, 3), data, plte, ending)
	add(api.ErrPalette, head(8, 0), plte, data, ending)
	add(api.ErrPalette, head(8, 4), plte, data, ending)
	add(api.ErrPalette, head(8, 2), laid("PLTE", ""), data, ending)
	add(api.ErrPalette, head(8, 2), laid("PLTE", "abcd"), data, ending)
	add(api.ErrPalette, head(8, 2), laid("PLTE", noise(1, 771)), data, ending)
	add(api.ErrPalette, head(1, 3), laid("PLTE", "abcdefghi"), data, ending)
	add(api.ErrTrans, head(8, 4), trns, data, ending)
	add(api.ErrTrans, head(8, 6), trns, data, ending)
	add(api.ErrTrans, head(8, 0), laid("tRNS", "a"), data, ending)
	add(api.ErrTrans, head(8, 2), trns, data, ending)
	add(api.ErrTrans, head(8, 3), plte, laid("tRNS", "abc"), data, ending)
	add(api.ErrCritical, head(8, 0), laid("ABCD", ""), data, ending)
	add(api.ErrCritical, head(8, 0), data, laid("Idat", "x"), ending)
	add(api.ErrChunk, head(8, 0), data, laid("IEND", "x"))
	add(api.ErrMore, head(8, 0), data, ending, ending)
	add(api.ErrMore, head(8, 0), data, ending, laid("tEXt", ""))
	add(api.ErrEnd, head(8, 0))
	add(api.ErrEnd, head(8, 0), data)
	add(api.ErrEnd, head(8, 0), data, laid("iEND", ""))
	return list
}

// P13.1: each error of head.Read, for each of its reasons.
func TestErrorsOfHeads(t *testing.T) {
	seen := map[api.Errno]bool{}
	for data, want := range wrongHeads() {
		for _, stream := range []string{wrapped("\x00ab"), "x"} {
			wantError(t, "a wrong header", fileOf(laid("IHDR", data), laid("IDAT", stream), ending), want)
		}
		seen[want] = true
	}
	for file, want := range wrongChunks() {
		wantError(t, "wrong chunks", file, want)
		seen[want] = true
	}
	if len(seen) != 9 {
		t.Errorf("only %d errors", len(seen))
	}
}

// P13.1: chunks that are ignored, and those that say nothing of the pixels, change nothing.
func TestIgnoredChunks(t *testing.T) {
	data := laid("IDAT", wrapped("\x00ab"))
	open := shapeChunks(grey(2, 1))
	for _, c := range []string{laid("tEXt", "abc"), laid("gAMA", "\x00\x00\xb1\x8f"), laid("iDAT", "x"), laid("zzzz", noise(2, 5000)), laid("pHYs", "")} {
		wantRaster(t, "ahead", fileOf(open, c, data, ending), greys('a', 'b'))
		wantRaster(t, "behind", fileOf(open, data, c, ending), greys('a', 'b'))
		wantRaster(t, "both", fileOf(open, c, c, data, c, c, ending), greys('a', 'b'))
		wantError(t, "between", fileOf(open, data, c, data, ending), api.ErrOrder)
	}
	s := format{api.RGB, 8, 3}.shape(1, 1, 0)
	s.Palette = "xyz"
	wantRaster(t, "a palette that is not used", pngOf(s, wrapped("\x00abc")), api.Raster{W: 1, H: 1, Pix: "aabbcc\xff\xff"})
}
