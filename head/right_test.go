package head_test

import (
	"math"
	"slices"
	"testing"

	"vitrine/api"
	"vitrine/chunk"
	"vitrine/head"
)

// far are numbers whose lowest bytes are those of a small one, and the ends of the kinds of integers.
func far(n int) []int {
	return []int{n + 1<<8, n - 1<<8, n + 1<<16, n + 1<<31, n + 1<<32, n - 1<<32, n + 1<<40, math.MinInt + n, math.MaxInt - n, math.MinInt32 + n, math.MaxInt32 - n}
}

// wantRight holds the error of a header against the one that is wanted.
func wantRight(t *testing.T, h api.Head, e api.Errno) {
	t.Helper()
	if got := head.Right(h); got != e {
		t.Errorf("Right(%+v) is %v, not %v", h, got, e)
	}
}

// P8.1: the samples of each colour type, and 0 for all other numbers.
func TestSamples(t *testing.T) {
	want := map[int]int{0: 1, 2: 3, 3: 1, 4: 2, 6: 4}
	for colour := -1000; colour < 1000; colour++ {
		if got := head.Samples(colour); got != want[colour] {
			t.Errorf("Samples(%d) is %d", colour, got)
		}
	}
	for _, colour := range colours() {
		for _, other := range far(colour) {
			if got := head.Samples(other); got != 0 {
				t.Errorf("Samples(%d) is %d", other, got)
			}
		}
	}
}

// P8.1: the examples of the document, and the edges of the sides and of their product.
func TestRightSides(t *testing.T) {
	for _, x := range []struct {
		w, h int
		e    api.Errno
	}{
		{1, 1, api.OK}, {1024, 1, api.OK}, {1024, 4, api.OK}, {64, 64, api.OK}, {1023, 4, api.OK}, {63, 65, api.OK}, {819, 5, api.OK}, {2, 3, api.OK},
		{1025, 1, api.ErrBig}, {1024, 5, api.ErrBig}, {64, 65, api.ErrBig}, {1025, 4, api.ErrBig}, {1024, 1024, api.ErrBig}, {17, 241, api.ErrBig}, {820, 5, api.ErrBig}, {4097, 1, api.ErrBig}, {1025, 3, api.ErrBig}, {1366, 3, api.ErrBig}, {2048, 2, api.ErrBig}, {4096, 1, api.ErrBig},
		{65536, 1, api.ErrBig}, {65536, 65536, api.ErrBig}, {2147483647, 1, api.ErrBig}, {2147483647, 2147483647, api.ErrBig}, {2147483646, 2, api.ErrBig}, {1073741824, 4, api.ErrBig},
		{0, 1, api.ErrHead}, {0, 0, api.ErrHead}, {-1, 1, api.ErrHead}, {-1, -1, api.ErrHead}, {-64, -64, api.ErrHead}, {-2147483648, 1, api.ErrHead}, {math.MinInt, 1, api.ErrHead}, {math.MinInt, math.MinInt, api.ErrHead},
		{2147483648, 1, api.ErrHead}, {2147483648, 0, api.ErrHead}, {2147483648, 1025, api.ErrHead}, {1 << 32, 1, api.ErrHead}, {1<<32 + 1, 1, api.ErrHead}, {math.MaxInt, 1, api.ErrHead}, {math.MaxInt, math.MaxInt, api.ErrHead}, {1 << 32, 1 << 32, api.ErrHead},
		{0, 1025, api.ErrHead}, {0, 2147483647, api.ErrHead}, {-1, 1025, api.ErrHead}, {-1, 2147483648, api.ErrHead},
	} {
		wantRight(t, api.Head{W: x.w, H: x.h, Depth: 8}, x.e)
		wantRight(t, api.Head{W: x.h, H: x.w, Depth: 16, Colour: api.RGBA, Lace: 1}, x.e)
	}
}

// P8.1: all sides to just above the limit.
func TestRightAllSides(t *testing.T) {
	for w := range 1030 {
		for h := range 1030 {
			e := api.OK
			if w == 0 || h == 0 {
				e = api.ErrHead
			} else if w > 1024 || h > 1024 || w*h > 4096 {
				e = api.ErrBig
			}
			wantRight(t, api.Head{W: w, H: h, Depth: 1}, e)
		}
	}
}

// P8.1: each colour type with each depth, and what is none.
func TestRightDepths(t *testing.T) {
	for colour := -20; colour < 300; colour++ {
		for depth := -20; depth < 300; depth++ {
			e := api.ErrHead
			if slices.Contains(depthsOf()[colour], depth) {
				e = api.OK
			}
			wantRight(t, api.Head{W: 1, H: 1, Depth: depth, Colour: colour}, e)
		}
	}
	for _, colour := range colours() {
		for _, depth := range depthsOf()[colour] {
			for i := range far(0) {
				wantRight(t, api.Head{W: 1, H: 1, Depth: far(depth)[i], Colour: colour}, api.ErrHead)
				wantRight(t, api.Head{W: 1, H: 1, Depth: depth, Colour: far(colour)[i]}, api.ErrHead)
			}
		}
	}
}

// P8.1: interlaced, not interlaced, and what is neither.
func TestRightLace(t *testing.T) {
	for _, colour := range colours() {
		for _, depth := range depthsOf()[colour] {
			for lace := -300; lace < 300; lace++ {
				e := api.ErrHead
				if lace == 0 || lace == 1 {
					e = api.OK
				}
				wantRight(t, api.Head{W: 64, H: 64, Depth: depth, Colour: colour, Lace: lace}, e)
			}
		}
	}
	for _, lace := range slices.Concat(far(0), far(1)) {
		wantRight(t, api.Head{W: 64, H: 64, Depth: 8, Lace: lace}, api.ErrHead)
	}
}

// P8.1: of several errors that apply, the first one: what is no header is not too big.
func TestRightOrder(t *testing.T) {
	sides := []int{-1, 0, 1, 64, 65, 1024, 1025, 2147483647, 2147483648}
	for _, w := range sides {
		for _, h := range sides {
			for colour := -1; colour < 8; colour++ {
				for depth := range 18 {
					for lace := -1; lace < 3; lace++ {
						x := api.Head{W: w, H: h, Depth: depth, Colour: colour, Lace: lace}
						wantRight(t, x, rightModel(x))
					}
				}
			}
		}
	}
	big := api.Head{W: 1025, H: 1025, Depth: 8}
	wantRight(t, big, api.ErrBig)
	for _, h := range []api.Head{{W: 1025, H: 1025}, {W: 1025, H: 1025, Depth: 3}, {W: 1025, H: 1, Depth: 8, Colour: 1}, {W: 65, H: 64, Depth: 8, Lace: 2}, {W: 1025, H: 0, Depth: 8}, {W: 2147483648, H: 1025, Depth: 8}} {
		wantRight(t, h, api.ErrHead)
	}
}

// wantLay holds a header's chunk against the bytes that are wanted.
func wantLay(t *testing.T, h api.Head, data string) {
	t.Helper()
	if got := head.Lay(h); got != c("IHDR", data) {
		t.Errorf("Lay(%+v) is %q, not %q", h, got, data)
	}
}

// P8.2: headers whose bytes are worked out by hand, and numbers beyond 32 and 8 bits.
func TestLay(t *testing.T) {
	wantLay(t, api.Head{}, "\x00\x00\x00\x00\x00\x00\x00\x00\x00\x00\x00\x00\x00")
	wantLay(t, api.Head{W: 1, H: 1, Depth: 8}, "\x00\x00\x00\x01\x00\x00\x00\x01\x08\x00\x00\x00\x00")
	wantLay(t, api.Head{W: 0x01020304, H: 0x05060708, Depth: 9, Colour: 10, Lace: 11}, "\x01\x02\x03\x04\x05\x06\x07\x08\x09\x0a\x00\x00\x0b")
	wantLay(t, api.Head{W: 1024, H: 4, Depth: 16, Colour: api.RGBA, Lace: 1}, "\x00\x00\x04\x00\x00\x00\x00\x04\x10\x06\x00\x00\x01")
	wantLay(t, api.Head{W: 2147483647, H: 2147483648, Depth: 127, Colour: 128, Lace: 255}, "\x7f\xff\xff\xff\x80\x00\x00\x00\x7f\x80\x00\x00\xff")
	wantLay(t, api.Head{W: 1<<32 - 1, H: 1 << 32, Depth: 256, Colour: 257, Lace: 511}, "\xff\xff\xff\xff\x00\x00\x00\x00\x00\x01\x00\x00\xff")
	wantLay(t, api.Head{W: 1<<32 + 0xfeffff, H: 1<<40 + 1<<24, Depth: 0x1234, Colour: 1 << 32, Lace: 1<<62 + 5}, "\x00\xfe\xff\xff\x01\x00\x00\x00\x34\x00\x00\x00\x05")
	wantLay(t, api.Head{W: -1, H: -2, Depth: -3, Colour: -4, Lace: -5}, "\xff\xff\xff\xff\xff\xff\xff\xfe\xfd\xfc\x00\x00\xfb")
	wantLay(t, api.Head{W: -2147483648, H: -2147483649, Depth: -128, Colour: -129, Lace: -256}, "\x80\x00\x00\x00\x7f\xff\xff\xff\x80\x7f\x00\x00\x00")
	wantLay(t, api.Head{W: math.MinInt, H: math.MaxInt, Depth: math.MinInt, Colour: math.MaxInt, Lace: math.MinInt + 1}, "\x00\x00\x00\x00\xff\xff\xff\xff\x00\xff\x00\x00\x01")
}

// P8.2: each byte of each number, alone.
func TestLayEachByte(t *testing.T) {
	for b := range 256 {
		for i, at := range []int{0, 4, 8, 9, 12} {
			for j := range 4 {
				var n [5]int
				n[i] = b << (8 * j)
				want := make([]byte, 13)
				if i < 2 {
					want[at+3-j] = byte(b)
				} else if j == 0 {
					want[at] = byte(b)
				}
				wantLay(t, api.Head{W: n[0], H: n[1], Depth: n[2], Colour: n[3], Lace: n[4]}, string(want))
			}
		}
	}
}

// P8.2, P8.3: Read returns the header that Lay laid, also by way of a file.
func TestLayAndRead(t *testing.T) {
	for _, colour := range colours() {
		for _, depth := range depthsOf()[colour] {
			for _, side := range [][2]int{{1, 1}, {1, 1024}, {1024, 4}, {64, 64}, {255, 16}, {15, 256}, {257, 3}} {
				for lace := range 2 {
					h := api.Head{W: side[0], H: side[1], Depth: depth, Colour: colour, Lace: lace}
					list, shape := []api.Chunk{head.Lay(h)}, api.Shape{Head: h}
					if colour == api.Palette {
						list, shape.Palette = append(list, c("PLTE", "abcdef")), "abcdef"
					}
					list = append(list, c("IDAT", "x"), c("IDAT", "y"), c("IEND", ""))
					wantRead(t, "a header", list, shape, "xy", api.OK)
					file, _ := chunk.Join(list...)
					split, _ := chunk.Split(file)
					wantRead(t, "a file", split, shape, "xy", api.OK)
				}
			}
		}
	}
}
