package samples_test

import (
	"bytes"
	"compress/zlib"
	"image"
	"image/color"
	library "image/png"
	"math/rand"
	"slices"
	"strings"
	"testing"

	"vitrine/api"
	"vitrine/chunk"
	"vitrine/head"
	"vitrine/samples"
)

// P11.3: Unpack of what Pack returns tells the samples again.
func TestThereAndBack(t *testing.T) {
	r := rand.New(rand.NewSource(13))
	for _, depth := range depths {
		for length := range 4097 {
			if length > 70 && length%211 != 0 && length < 4095 {
				continue
			}
			list := make([]int, length)
			for i := range list {
				list[i] = r.Intn(1 << depth)
			}
			row, e := samples.Pack(depth, list...)
			if e != api.OK || len(row) != (length*depth+7)/8 {
				t.Fatalf("Pack(%d) of %d samples: %d bytes, %d", depth, length, len(row), e)
			}
			wantUnpack(t, row, depth, length, list, api.OK)
		}
	}
}

// P11.3: each sample is itself again, and is widened to a number of its own; the greatest one to 65535.
func TestEachSample(t *testing.T) {
	for _, depth := range depths {
		seen := map[int]bool{}
		for v := range 1 << depth {
			row, _ := samples.Pack(depth, v)
			if list, e := samples.Unpack(row, depth, 1); !slices.Equal(list, []int{v}) || e != api.OK {
				t.Fatalf("depth %d: %d comes back as %v, %d", depth, v, list, e)
			}
			seen[samples.Wide(v, depth)] = true
		}
		if len(seen) != 1<<depth {
			t.Errorf("depth %d: %d numbers", depth, len(seen))
		}
		wantWide(t, 0, depth, 0)
		wantWide(t, 1<<depth-1, depth, 65535)
	}
}

// R1: a result beside an error is its zero value.
func TestNothingBesideErrors(t *testing.T) {
	if list, e := samples.Unpack("x", 8, 2); len(list) != 0 || e != api.ErrShort {
		t.Error(list, e)
	}
	if list, e := samples.Unpack("x", 3, 1); len(list) != 0 || e != api.ErrArg {
		t.Error(list, e)
	}
	if row, e := samples.Pack(3, 1); row != "" || e != api.ErrArg {
		t.Error(row, e)
	}
	if pixel, e := samples.Pixel(shape(api.Palette, 8), 1); pixel != "" || e != api.ErrIndex {
		t.Error(pixel, e)
	}
}

// R2: a list that is passed in stays as it is, also behind its end.
func TestListsStay(t *testing.T) {
	for colour, n := range colours {
		for _, depth := range depths {
			for _, v := range []int{0, 1, -1, 1 << depth, 1<<20 + 1} {
				all := slices.Repeat([]int{v, 0, 1}, 9)
				before := slices.Clone(all)
				samples.Pack(depth, all[:n]...)
				samples.Pack(3, all[:n]...)
				samples.Pixel(withTrans(withPalette(shape(colour, depth), full(8)), "\x00\x00"), all[:n]...)
				samples.Pixel(withTrans(shape(colour, depth), "\x00\x00\x00\x00\x00\x00"), all[:n]...)
				samples.Pixel(shape(colour, depth), all[:n+1]...)
				if !slices.Equal(all, before) {
					t.Errorf("colour %d, depth %d: %v became %v", colour, depth, before, all)
				}
			}
		}
	}
}

// R2: what Unpack returns is new: what is done with it changes no other result.
func TestResultsAreNew(t *testing.T) {
	for _, depth := range depths {
		row := "\x12\x34\x56\x78"
		one, _ := samples.Unpack(row, depth, 2)
		other, _ := samples.Unpack(row, depth, 2)
		want := slices.Clone(other)
		all := one[:cap(one)]
		for i := range all {
			all[i] = -1
		}
		if !slices.Equal(other, want) {
			t.Errorf("depth %d: changed: %v", depth, other)
		}
		wantUnpack(t, row, depth, 2, want, api.OK)
	}
}

// R3: a call does not depend on those before it.
func TestCallsAreApart(t *testing.T) {
	for range 3 {
		wantPack(t, 2, []int{1, 2, 3}, "\x6c", api.OK)
		wantUnpack(t, "\x6c", 2, 3, []int{1, 2, 3}, api.OK)
		wantUnpack(t, "\x6c", 2, 5, nil, api.ErrShort)
		wantUnpack(t, "\x6c", 3, 1, nil, api.ErrArg)
		wantPack(t, 1, []int{1}, "\x80", api.OK)
		wantPack(t, 1, nil, "", api.OK)
		wantPack(t, 5, []int{1}, "", api.ErrArg)
		wantPixel(t, withTrans(shape(api.Grey, 8), "\x00\x80"), []int{128}, "\x80\x80\x80\x80\x80\x80\x00\x00", api.OK)
		wantPixel(t, shape(api.Grey, 8), []int{128}, "\x80\x80\x80\x80\x80\x80\xff\xff", api.OK)
		wantPixel(t, shape(api.Palette, 8), []int{128}, "", api.ErrIndex)
		wantPixel(t, shape(api.GreyA, 8), []int{1, 2}, "\x01\x01\x01\x01\x01\x01\x02\x02", api.OK)
	}
}

// decoded is the picture that the library reads: the pixels of a shape, all in one row.
func decoded(t *testing.T, s api.Shape, row string) image.Image {
	t.Helper()
	var stream bytes.Buffer
	w := zlib.NewWriter(&stream)
	w.Write([]byte("\x00" + row))
	w.Close()
	chunks := []api.Chunk{head.Lay(s.Head)}
	if s.Palette != "" {
		chunks = append(chunks, api.Chunk{Type: "PLTE", Data: s.Palette})
	}
	if s.HasTrans {
		chunks = append(chunks, api.Chunk{Type: "tRNS", Data: s.Trans})
	}
	file, e := chunk.Join(append(chunks, api.Chunk{Type: "IDAT", Data: stream.String()}, api.Chunk{Type: "IEND"})...)
	if e != api.OK {
		t.Fatal(e)
	}
	m, err := library.Decode(strings.NewReader(file))
	if err != nil {
		t.Fatalf("%+v: %v", s, err)
	}
	return m
}

// libraryPixel is a colour of the library, whose channels are not multiplied by alpha.
func libraryPixel(c color.Color) string {
	switch c := c.(type) {
	case color.NRGBA:
		return channels(int(c.R)*257, int(c.G)*257, int(c.B)*257, int(c.A)*257)
	case color.NRGBA64:
		return channels(int(c.R), int(c.G), int(c.B), int(c.A))
	}
	red, green, blue, alpha := c.RGBA() // a colour without transparency
	return channels(int(red), int(green), int(blue), int(alpha))
}

// formats are shapes of each colour type and depth that a PNG has, with and without a transparency.
func formats() []api.Shape {
	var all []api.Shape
	for _, depth := range depths {
		grey := shape(api.Grey, depth)
		all = append(all, grey, withTrans(grey, "\x00\x01"), withTrans(grey, "\x00\x00"))
		if depth < 16 {
			s := withPalette(shape(api.Palette, depth), full(depth))
			all = append(all, s, withTrans(s, "\x00"), withTrans(s, "\x80\xff"))
		}
		if depth >= 8 {
			rgb := shape(api.RGB, depth)
			all = append(all, rgb, withTrans(rgb, "\x00\x01\x00\x00\x00\x01"), withTrans(rgb, "\x00\x00\x00\x01\x00\x01"))
			all = append(all, shape(api.GreyA, depth), shape(api.RGBA, depth))
		}
	}
	return all
}

// P11.1, P11.2: the library reads the pixels that Pixel tells from the rows that Pack lays.
func TestLibraryReads(t *testing.T) {
	r := rand.New(rand.NewSource(14))
	for _, s := range formats() {
		for _, below := range []int{2, 1 << s.Depth} {
			s.W = 61
			n := colours[s.Colour]
			list := make([]int, s.W*n)
			for i := range list {
				list[i] = r.Intn(below)
			}
			row, _ := samples.Pack(s.Depth, list...)
			m := decoded(t, s, row)
			for x := range s.W {
				wantPixel(t, s, list[x*n:x*n+n], libraryPixel(m.At(x, 0)), api.OK)
			}
		}
	}
}
