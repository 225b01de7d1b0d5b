package png_test

import (
	"math"
	"strings"
	"testing"

	"vitrine/api"
	"vitrine/chunk"
	"vitrine/pixel"
	"vitrine/png"
	"vitrine/zlib"
)

// P13.2: a file of which each byte is worked out by hand: its data are nine zero bytes.
func TestEncodeByHand(t *testing.T) {
	const want = "\x89PNG\r\n\x1a\n" +
		"\x00\x00\x00\x0dIHDR" + "\x00\x00\x00\x01\x00\x00\x00\x01\x10\x06\x00\x00\x00" + "\x4f\x85\x18\xca" +
		"\x00\x00\x00\x0aIDAT" + "\x78\x01" + "\x63\x80\x01\x00" + "\x00\x09\x00\x01" + "\xb7\xdc\x9b\x4b" +
		"\x00\x00\x00\x00IEND" + "\xae\x42\x60\x82"
	r := api.Raster{W: 1, H: 1, Pix: strings.Repeat("\x00", 8)}
	if got, e := png.Encode(r); got != want || e != api.OK {
		t.Errorf("Encode is %s, %d, not %s", short(got), e, short(want))
	}
	wantRaster(t, "by hand", want, r)
}

// wantParts holds a file that Encode returned against the three chunks of the document.
func wantParts(t *testing.T, r api.Raster, file string) {
	t.Helper()
	list, e := chunk.Split(file)
	if e != api.OK || len(list) != 3 || list[0].Type != "IHDR" || list[1].Type != "IDAT" || list[2] != (api.Chunk{Type: "IEND"}) {
		t.Fatalf("Encode(%s) is %s", short(r), short(file))
	}
	if want := headData(uint32(r.W), uint32(r.H), 16, 6, 0); list[0].Data != want {
		t.Errorf("Encode(%s) has the header %x, not %x", short(r), list[0].Data, want)
	}
	data, _ := pixel.Rows(r)
	if list[1].Data != zlib.Wrap(data) {
		t.Errorf("Encode(%s) has the stream %s, not %s", short(r), short(list[1].Data), short(zlib.Wrap(data)))
	}
	if unwrapped(t, list[1].Data) != data {
		t.Errorf("Encode(%s) has other data", short(r))
	}
	if want := fileOf(laid("IHDR", list[0].Data), laid("IDAT", list[1].Data), ending); file != want {
		t.Errorf("Encode(%s) is %s, not %s", short(r), short(file), short(want))
	}
}

// P13.2: rasters at the edges, with the error of each.
func TestErrorsOfRasters(t *testing.T) {
	whole := strings.Repeat("x", 32768)
	for _, c := range []struct {
		w, h, bytes int
		want        api.Errno
	}{
		{1, 1, 8, api.OK}, {1, 1, 7, api.ErrHead}, {1, 1, 9, api.ErrHead}, {1, 1, 0, api.ErrHead}, {1, 1, 16, api.ErrHead},
		{2, 1, 16, api.OK}, {2, 1, 8, api.ErrHead}, {1, 2, 16, api.OK}, {1, 2, 15, api.ErrHead}, {1, 2, 17, api.ErrHead},
		{64, 64, 32768, api.OK}, {64, 64, 32767, api.ErrHead}, {64, 64, 0, api.ErrHead}, {64, 63, 32768, api.ErrHead},
		{1024, 4, 32768, api.OK}, {1024, 4, 32767, api.ErrHead}, {4, 1024, 32768, api.OK}, {4, 1024, 32767, api.ErrHead},
		{1024, 1, 8192, api.OK}, {1024, 1, 8193, api.ErrHead}, {1, 1024, 8192, api.OK}, {1, 1024, 8191, api.ErrHead},
		{0, 0, 0, api.ErrHead}, {0, 1, 0, api.ErrHead}, {1, 0, 0, api.ErrHead}, {0, 1, 8, api.ErrHead}, {1, 0, 8, api.ErrHead},
		{-1, 1, 8, api.ErrHead}, {1, -1, 8, api.ErrHead}, {-1, -1, 8, api.ErrHead}, {-1, -1, 0, api.ErrHead},
		{2147483648, 1, 8, api.ErrHead}, {1, 2147483648, 8, api.ErrHead}, {2147483648, 2147483648, 0, api.ErrHead},
		{1<<32 + 1, 1, 8, api.ErrHead}, {1, 1<<32 + 1, 8, api.ErrHead}, {math.MinInt, 1, 8, api.ErrHead}, {math.MaxInt, math.MaxInt, 8, api.ErrHead},
		{2147483647, 1, 8, api.ErrBig}, {1, 2147483647, 8, api.ErrBig}, {2147483647, 2147483647, 8, api.ErrBig},
		{1025, 1, 8200, api.ErrBig}, {1025, 1, 8192, api.ErrBig}, {1, 1025, 8200, api.ErrBig}, {1025, 1025, 0, api.ErrBig},
		{64, 65, 32768, api.ErrBig}, {65, 64, 32768, api.ErrBig}, {64, 65, 0, api.ErrBig}, {1024, 5, 32768, api.ErrBig}, {1024, 1024, 32768, api.ErrBig},
		{1025, 0, 0, api.ErrHead}, {0, 1025, 0, api.ErrHead}, {1025, -1, 8, api.ErrHead}, {2147483648, 1025, 8, api.ErrHead},
	} {
		r := api.Raster{W: c.w, H: c.h, Pix: whole[:c.bytes]}
		if e := pixel.Check(r); e != c.want {
			t.Fatalf("%s: %d, not %d", short(r), e, c.want)
		}
		if c.want != api.OK {
			wantRefused(t, r, c.want)
			continue
		}
		file := encoded(t, r)
		wantParts(t, r, file)
		wantRaster(t, "there and back", file, r)
	}
	wantRefused(t, api.Raster{}, api.ErrHead)
	wantRefused(t, api.Raster{W: 64, H: 65, Pix: strings.Repeat("x", 8*64*65)}, api.ErrBig)
}

// P13.2: right and wrong sides together, with as many bytes as they ask for, one less and one more.
func TestSidesTogether(t *testing.T) {
	whole := strings.Repeat("\x00", 8*1025*4)
	sides := []int{-1, 0, 1, 2, 4, 5, 64, 65, 1023, 1024, 1025, 2147483647, 2147483648}
	for _, w := range sides {
		for _, h := range sides {
			for more := -1; more <= 1; more++ {
				bytes := 0
				if w > 0 && h > 0 && w <= 1025 && h <= 1025 && 8*w*h < len(whole) {
					bytes = 8 * w * h
				}
				r := api.Raster{W: w, H: h, Pix: whole[:max(0, bytes+more)]}
				if want := pixel.Check(r); want != api.OK {
					wantRefused(t, r, want)
				} else {
					wantRaster(t, "there and back", encoded(t, r), r)
				}
			}
		}
	}
}
