package png_test

import (
	"math/rand"
	"strings"
	"testing"

	"vitrine/api"
	"vitrine/chunk"
	"vitrine/deflate"
	"vitrine/head"
	"vitrine/lace"
	"vitrine/pixel"
	"vitrine/zlib"
)

// step is one on the way from image data to a file, and the error that it makes, if one.
type step struct {
	do func(string) string
	e  api.Errno
}

// images give data of two pixels with a palette of two colours; the text that they are given makes no difference.
func images() []step {
	of := func(data string) func(string) string { return func(string) string { return data } }
	return []step{
		{of("\x00\x00\x01"), api.OK},
		{of("\x00\x00"), api.ErrShort},
		{of("\x05\x02\x00"), api.ErrFilter},
		{of("\x00\x00\x02"), api.ErrIndex},
	}
}

// streams make a stream of data.
func streams() []step {
	return []step{
		{wrapped, api.OK},
		{func(data string) string { return "" }, api.ErrEnd},
		{func(data string) string { return "\x78\x02" + deflate.Fixed(data) + sum(data) }, api.ErrZlib},
		{func(data string) string { return "\x78\x01" + deflate.Fixed(data)[:1] }, api.ErrEnd},
		{func(data string) string { return framed("\x07", data) }, api.ErrBlock},
		{func(data string) string { return wrapped(data + "\x00\x00") }, api.ErrLong},
		{func(data string) string { return framed(deflate.Fixed(data+"\x00\x00"), data) + "x" }, api.ErrLong},
		{func(data string) string { return framed(deflate.Fixed(data), data+"x") }, api.ErrSum},
		{func(data string) string { return wrapped(data) + "x" }, api.ErrMore},
	}
}

// heads make chunks of a stream.
func heads() []step {
	const colours = "abcdef"
	hd, plte := laid("IHDR", headData(2, 1, 8, 3, 0)), laid("PLTE", colours)
	around := func(ahead, behind string) func(string) string {
		return func(stream string) string { return ahead + laid("IDAT", stream) + behind }
	}
	return []step{
		{around(hd+plte, ending), api.OK},
		{around(plte+hd, ending), api.ErrOrder},
		{around(hd, ending), api.ErrOrder},
		{around(hd+plte, laid("tEXt", "")+laid("IDAT", "")+ending), api.ErrOrder},
		{around(laid("IHDR", headData(2, 1, 3, 3, 0))+plte, ending), api.ErrHead},
		{around(laid("IHDR", headData(1025, 1, 8, 3, 0))+plte, ending), api.ErrBig},
		{around(hd+laid("PLTE", "abcd"), ending), api.ErrPalette},
		{around(hd+plte+laid("tRNS", "abc"), ending), api.ErrTrans},
		{around(hd+plte+laid("ABCD", ""), ending), api.ErrCritical},
		{around(hd+plte, laid("IEND", "x")), api.ErrChunk},
		{around(hd+plte, ending+ending), api.ErrMore},
		{around(hd+plte, ""), api.ErrEnd},
	}
}

// files make a file of chunks.
func files() []step {
	around := func(ahead, behind string) func(string) string {
		return func(chunks string) string { return ahead + chunks + behind }
	}
	return []step{
		{around(signature, ""), api.OK},
		{around("\x89PNG\r\n\x1a\r", ""), api.ErrSign},
		{around("", ""), api.ErrSign},
		{around(signature, "\x00\x00\x00"), api.ErrEnd},
		{around(signature, "\x00\x00\x00\x01tEXt\x00\x00\x00\x00"), api.ErrEnd},
		{around(signature, "\x80\x00\x00\x00tEXt"), api.ErrChunk},
		{around(signature, "\x00\x00\x00\x00tEX\x00\x00\x00\x00\x00"), api.ErrChunk},
		{around(signature, "\x00\x00\x00\x00tEXt\x00\x00\x00\x00"), api.ErrCrc},
	}
}

// sizes make a file of a file.
func sizes() []step {
	return []step{
		{func(file string) string { return file }, api.OK},
		{func(file string) string { return file + strings.Repeat("\x00", most+1-len(file)) }, api.ErrBig},
		{func(file string) string { return file + laid("tEXt", strings.Repeat("x", most)) }, api.ErrBig},
	}
}

// P13.1: of several errors that apply the first one: each way to make data with each one to make a stream, chunks and a file of it.
func TestOrderOfErrors(t *testing.T) {
	right := api.Raster{W: 2, H: 1, Pix: "aabbcc\xff\xffddeeff\xff\xff"}
	for _, image := range images() {
		for _, stream := range streams() {
			for _, head := range heads() {
				for _, file := range files() {
					for _, size := range sizes() {
						text, want := "", api.OK
						for _, s := range []step{image, stream, head, file, size} {
							text = s.do(text)
							if s.e != api.OK {
								want = s.e // that of a later step is told ahead of it
							}
						}
						if want == api.OK {
							wantRaster(t, "all right", text, right)
						} else {
							wantError(t, "some wrong", text, want)
						}
					}
				}
			}
		}
	}
}

// P13.1: files whose headers are too big stay so, whatever their streams say; those whose streams say too much are too long.
func TestBigAndLong(t *testing.T) {
	for _, c := range wrongStreams() {
		s := grey(1025, 1)
		wantError(t, c.name+", and too wide", pngOf(s, c.stream), api.ErrBig)
		s = grey(64, 65)
		wantError(t, c.name+", and too many pixels", pngOf(s, c.stream), api.ErrBig)
		s = grey(0, 1025)
		wantError(t, c.name+", and no pixels", pngOf(s, c.stream), api.ErrHead)
		file := pair(c.stream)
		wantError(t, c.name+", and too big a file", file+strings.Repeat("\x00", most+1-len(file)), api.ErrBig)
	}
}

// decodeModel is the chapter's words, one after the other.
func decodeModel(file string) (api.Raster, api.Errno) {
	var r api.Raster
	var e api.Errno
	if len(file) > 65536 {
		return r, api.ErrBig
	}
	if list, e1 := chunk.Split(file); e1 != api.OK {
		e = e1
	} else if s, data, e2 := head.Read(list...); e2 != api.OK {
		e = e2
	} else if raw, e3 := zlib.Unwrap(data, lace.Size(s.Head)); e3 == api.ErrBig {
		e = api.ErrLong
	} else if e3 != api.OK {
		e = e3
	} else {
		r, e = pixel.Image(s, raw)
	}
	return r, e
}

// wantModel holds Decode against the model, and returns the error.
func wantModel(t *testing.T, name, file string) api.Errno {
	t.Helper()
	want, e := decodeModel(file)
	check(t, name, file, want, e)
	return e
}

// P13.1: each bit and each byte of some files changed.
func TestEachByte(t *testing.T) {
	s := format{api.Palette, 2, 1}.shape(3, 3, 1)
	p := pictureOf(rand.New(rand.NewSource(131)), s, format{api.Palette, 2, 1}, 4)
	for _, file := range []string{pair(wrapped("\x00ab")), pngOf(withTrans(s, "ab"), wrapped(p.data())), encoded(t, greys(1, 2))} {
		if e := wantModel(t, "right", file); e != api.OK {
			t.Fatal(e)
		}
		for at := range len(file) {
			for b := range 256 {
				if byte(b) != file[at] && wantModel(t, "a byte changed", file[:at]+string([]byte{byte(b)})+file[at+1:]) == api.OK {
					t.Errorf("the byte %d may be %d: %s", at, b, short(file))
				}
			}
			if wantModel(t, "a byte less", file[:at]+file[at+1:]) == api.OK {
				t.Errorf("the byte %d may be missing: %s", at, short(file))
			}
		}
	}
}

// damaged is data with some bytes changed, taken out or put in.
func damaged(rnd *rand.Rand, data string, times int) string {
	for range rnd.Intn(times + 1) {
		at := rnd.Intn(len(data) + 1)
		switch rnd.Intn(4) {
		case 0:
			data = data[:at]
		case 1:
			data = data[:at] + string([]byte{byte(rnd.Intn(256))}) + data[at:]
		case 2:
			data = data[:at] + data[min(at+1, len(data)):]
		default:
			data = data[:at] + string([]byte{byte(rnd.Intn(8))}) + data[min(at+1, len(data)):]
		}
	}
	return data
}

// damagedFile is a file that is damaged now and then in its image data, its stream, the data of its chunks, their order, or as a whole.
func damagedFile(rnd *rand.Rand) string {
	f := formats()[rnd.Intn(len(formats()))]
	list := f.shapes(1+rnd.Intn(5), 1+rnd.Intn(5), rnd.Intn(2))
	s := list[rnd.Intn(len(list))]
	p := pictureOf(rnd, s, f, 1<<f.depth)
	if f.colour == api.Palette && rnd.Intn(4) == 0 {
		s.Palette = s.Palette[:len(s.Palette)/6*3]
		s.Trans, s.HasTrans = "", false
	}
	where := rnd.Intn(6)
	times := func(place int) int {
		if where == place {
			return 3
		}
		return 0
	}
	data := damaged(rnd, p.data(), times(1))
	kinds := []string{deflate.Stored(data), deflate.Stored(data), deflate.Fixed(data), deflate.Dynamic(data)}
	stream := damaged(rnd, "\x78\x01"+damaged(rnd, kinds[rnd.Intn(4)], times(2))+sum(data), times(2))
	if where == 3 {
		s.Head = damagedHead(rnd, s.Head)
	}
	chunks, _ := chunk.Split(pngOf(s, stream[:len(stream)/2], stream[len(stream)/2:]))
	for i := range times(4) {
		a, b := rnd.Intn(len(chunks)), rnd.Intn(len(chunks))
		chunks[a].Data = damaged(rnd, chunks[a].Data, i)
		chunks[a], chunks[b] = chunks[b], chunks[a]
		chunks = append(chunks, chunks[rnd.Intn(len(chunks))])[rnd.Intn(2):]
	}
	file, _ := chunk.Join(chunks...)
	return damaged(rnd, file, times(5))
}

// damagedHead is a header with one number changed.
func damagedHead(rnd *rand.Rand, h api.Head) api.Head {
	field := []*int{&h.W, &h.H, &h.Depth, &h.Colour, &h.Lace}[rnd.Intn(5)]
	*field = []int{0, 1, 2, 3, 4, 8, 16, 1024, 1025, 1 << 31}[rnd.Intn(10)]
	return h
}

// P13.1, R1: files that are damaged at random, which have all errors now and then.
func TestDamaged(t *testing.T) {
	rnd := rand.New(rand.NewSource(132))
	seen := map[api.Errno]int{}
	for range 30000 {
		seen[wantModel(t, "damaged", damagedFile(rnd))]++
	}
	for _, e := range []api.Errno{
		api.OK, api.ErrEnd, api.ErrMore, api.ErrBig, api.ErrLess, api.ErrOver, api.ErrCode, api.ErrBlock, api.ErrStored, api.ErrFar, api.ErrZlib, api.ErrSum,
		api.ErrSign, api.ErrChunk, api.ErrCrc, api.ErrOrder, api.ErrHead, api.ErrPalette, api.ErrTrans, api.ErrFilter, api.ErrIndex, api.ErrShort, api.ErrLong,
	} {
		if seen[e] == 0 {
			t.Errorf("never: %v", e)
		}
	}
}

// R1: bytes without a rule, by themselves and behind what a file begins with.
func TestNoise(t *testing.T) {
	rnd := rand.New(rand.NewSource(133))
	for i := range 2000 {
		text := noise(i, rnd.Intn(60))
		for _, ahead := range []string{"", signature, fileOf(shapeChunks(grey(2, 1)))} {
			wantModel(t, "noise", ahead+text)
		}
		wantModel(t, "noise in an IDAT", pair(text))
		wantModel(t, "noise as a stream", pair("\x78\x01"+text))
		wantModel(t, "noise in an IHDR", fileOf(laid("IHDR", text[:min(len(text), 13)]), laid("IDAT", wrapped("")), ending))
	}
}
