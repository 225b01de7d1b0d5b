package samples_test

import (
	"math"
	"math/rand"
	"slices"
	"strings"
	"testing"

	"vitrine/api"
	"vitrine/samples"
)

// packed are samples and their packed rows, worked out by hand.
var packed = []struct {
	depth int
	list  []int
	row   string
}{
	{1, []int{1}, "\x80"},
	{1, []int{0, 1}, "\x40"},
	{1, []int{0, 0, 0, 0, 0, 0, 0, 1}, "\x01"},
	{1, []int{1, 1, 1, 1, 1, 1, 1, 1}, "\xff"},
	{1, []int{1, 0, 1, 0, 0, 1, 1, 0, 1}, "\xa6\x80"},
	{1, []int{0, 0, 0, 0, 0, 0, 0, 0, 0}, "\x00\x00"},
	{2, []int{3}, "\xc0"},
	{2, []int{1, 2, 3}, "\x6c"},
	{2, []int{0, 1, 2, 3}, "\x1b"},
	{2, []int{3, 0, 0, 1, 2}, "\xc1\x80"},
	{4, []int{9}, "\x90"},
	{4, []int{9, 6}, "\x96"},
	{4, []int{0, 15, 1}, "\x0f\x10"},
	{8, []int{128}, "\x80"},
	{8, []int{0, 255, 1}, "\x00\xff\x01"},
	{16, []int{1}, "\x00\x01"},
	{16, []int{256}, "\x01\x00"},
	{16, []int{65535, 0, 32769, 4660}, "\xff\xff\x00\x00\x80\x01\x12\x34"},
}

// P11.1: Unpack returns the samples of a packed row, and Pack the packed row of samples; what follows the samples in the row doesn't matter to Unpack.
func TestByHand(t *testing.T) {
	for _, c := range packed {
		wantPack(t, c.depth, c.list, c.row, api.OK)
		wantUnpack(t, c.row, c.depth, len(c.list), c.list, api.OK)
		wantUnpack(t, c.row+"\x00", c.depth, len(c.list), c.list, api.OK)
		wantUnpack(t, c.row+strings.Repeat("\xff", 99), c.depth, len(c.list), c.list, api.OK)
		for n := range c.list {
			wantUnpack(t, c.row, c.depth, n, c.list[:n], api.OK)
		}
	}
	wantUnpack(t, "\x7f", 1, 1, []int{0}, api.OK)
	wantUnpack(t, "\xbf", 2, 1, []int{2}, api.OK)
	wantUnpack(t, "\x5a\xaf", 4, 3, []int{5, 10, 10}, api.OK)
}

// P11.1: a row has just the bits of the samples, or it is short: the bits behind the last sample in its byte are samples as well.
func TestBitsOfRows(t *testing.T) {
	for _, depth := range depths {
		for bytes := range 40 {
			row := strings.Repeat("\xff", bytes)
			n := bytes * 8 / depth
			want := slices.Repeat([]int{modulo(-1, depth)}, n)
			wantUnpack(t, row, depth, n, want, api.OK)
			wantUnpack(t, row, depth, n+1, nil, api.ErrShort)
			wantUnpack(t, row, depth, n+2, nil, api.ErrShort)
			wantUnpack(t, row, depth, 4096, nil, api.ErrShort)
			wantUnpack(t, row, depth, 4097, nil, api.ErrArg)
		}
	}
	wantUnpack(t, "\xff", 16, 1, nil, api.ErrShort)
	wantUnpack(t, "\xff\xff\xff", 16, 1, []int{65535}, api.OK)
	wantUnpack(t, "\xff\xff\xff", 16, 2, nil, api.ErrShort)
}

// P11.1: no samples are in each row, also in an empty one; no samples are packed as an empty row.
func TestNoSamples(t *testing.T) {
	for _, depth := range depths {
		for _, row := range []string{"", "\xff", "\x00\x00\x00"} {
			wantUnpack(t, row, depth, 0, nil, api.OK)
		}
		wantUnpack(t, "", depth, 1, nil, api.ErrShort)
		wantPack(t, depth, nil, "", api.OK)
		wantPack(t, depth, []int{}, "", api.OK)
	}
}

// P11.1: n is from 0 to 4096.
func TestCounts(t *testing.T) {
	for _, depth := range depths {
		row := strings.Repeat("\xe4", 4097*depth/8+2)
		for _, n := range []int{0, 1, 2, 4095, 4096} {
			unpackLikeModel(t, row, depth, n)
			just := row[:(n*depth+7)/8]
			unpackLikeModel(t, just, depth, n)
			if n > 0 {
				wantUnpack(t, just[1:], depth, n, nil, api.ErrShort)
			}
		}
		wrong := []int{-1, -2, -8, 4097, 4098, 8192, 65536, math.MaxInt, math.MinInt, math.MaxInt / 16, math.MinInt / 16}
		for _, n := range slices.Concat(wrong, far(0), far(1), far(4096)) {
			if n < 0 || n > 4096 {
				wantUnpack(t, row, depth, n, nil, api.ErrArg)
				wantUnpack(t, "", depth, n, nil, api.ErrArg)
			}
		}
	}
}

// P11.1: a wrong depth is ErrArg, whatever the row, the number of samples and the samples are; and nothing is widened.
func TestWrongDepths(t *testing.T) {
	for _, depth := range wrongDepths() {
		for _, row := range []string{"", "x", strings.Repeat("x", 9000)} {
			for _, n := range []int{-1, 0, 1, 4096, 4097} {
				wantUnpack(t, row, depth, n, nil, api.ErrArg)
			}
		}
		wantPack(t, depth, nil, "", api.ErrArg)
		wantPack(t, depth, []int{1}, "", api.ErrArg)
		wantPack(t, depth, []int{0, -1, 1 << 40}, "", api.ErrArg)
		for _, v := range []int{0, 1, 2, 255, 65535, -1, math.MaxInt, math.MinInt} {
			wantWide(t, v, depth, 0)
		}
	}
}

// P11.1: each row of up to two bytes, with each depth and number of samples that it may have and some more.
func TestAllShortRows(t *testing.T) {
	for length := range 3 {
		for bytes := range lists(length, 256) {
			row := make([]byte, length)
			for i, b := range bytes {
				row[i] = byte(b)
			}
			for _, depth := range depths {
				n := 8 * length / depth
				unpackLikeModel(t, string(row), depth, n)
				unpackLikeModel(t, string(row), depth, n+1)
				unpackLikeModel(t, string(row), depth, n/2+1)
			}
		}
	}
}

// P11.1: each short list of samples, also of those that are beyond the depth.
func TestAllShortLists(t *testing.T) {
	for _, c := range []struct{ depth, length, below int }{{1, 10, 2}, {1, 4, 6}, {2, 6, 4}, {2, 3, 16}, {4, 3, 18}, {8, 2, 260}, {16, 1, 65540}} {
		for length := range c.length + 1 {
			for list := range lists(length, c.below) {
				packLikeModel(t, c.depth, list...)
			}
		}
	}
}

// P11.1: Pack takes the low bits of a sample only, which are those of a negative one as well.
func TestLowBits(t *testing.T) {
	for _, c := range []struct {
		depth int
		list  []int
		row   string
	}{
		{1, []int{2, 3, -1, -2, 256, 257}, "\x64"},
		{2, []int{4, 5, -1, -2, -3, -4}, "\x1e\x40"},
		{4, []int{16, 31, -1, -16}, "\x0f\xf0"},
		{8, []int{256, 511, -1, -256, -255}, "\x00\xff\xff\x00\x01"},
		{16, []int{65536, 131071, -1, -65536, -65535}, "\x00\x00\xff\xff\xff\xff\x00\x00\x00\x01"},
		{8, []int{math.MaxInt, math.MinInt, math.MaxInt - 1, math.MinInt + 1}, "\xff\x00\xfe\x01"},
		{4, []int{0, 1 << 4, 0, -1 << 8}, "\x00\x00"},
	} {
		wantPack(t, c.depth, c.list, c.row, api.OK)
	}
	for _, depth := range depths {
		for _, v := range []int{0, 1, modulo(-1, depth), modulo(-1, depth) + 1} {
			for _, other := range far(v) {
				packLikeModel(t, depth, 0, other, 0)
				packLikeModel(t, depth, other, v, -other)
				wantWide(t, other, depth, wideModel(other, depth))
			}
		}
	}
}

// P11.1: the bits behind the last sample are 0, whatever the samples have beyond the depth.
func TestZeroBits(t *testing.T) {
	for _, depth := range []int{1, 2, 4} {
		for n := range 20 {
			row, _ := samples.Pack(depth, slices.Repeat([]int{-1}, n)...)
			want := strings.Repeat("1", n*depth)
			want += strings.Repeat("0", (8-len(want)%8)%8)
			if bitsOf(row) != want {
				t.Errorf("%d samples of depth %d are %s", n, depth, bitsOf(row))
			}
		}
	}
}

// P11.1: long rows, and longer ones than Unpack takes.
func TestRandomRows(t *testing.T) {
	r := rand.New(rand.NewSource(11))
	for range 300 {
		depth := depths[r.Intn(5)]
		list := make([]int, r.Intn(200))
		for i := range list {
			list[i] = r.Intn(1<<18) - 1<<17
		}
		packLikeModel(t, depth, list...)
		row := make([]byte, r.Intn(60))
		r.Read(row)
		unpackLikeModel(t, string(row), depth, r.Intn(len(row)*8/depth+1))
	}
	for _, depth := range depths {
		list := make([]int, 5001)
		for i := range list {
			list[i] = r.Int()
		}
		packLikeModel(t, depth, list...)
	}
}

// P11.1: samples widened, worked out by hand.
func TestWideByHand(t *testing.T) {
	for _, c := range [][3]int{
		{0, 1, 0}, {1, 1, 65535}, {2, 1, 0}, {3, 1, 65535}, {-1, 1, 65535}, {-2, 1, 0},
		{0, 2, 0}, {1, 2, 21845}, {2, 2, 43690}, {3, 2, 65535}, {4, 2, 0}, {-1, 2, 65535}, {-3, 2, 21845},
		{0, 4, 0}, {1, 4, 4369}, {7, 4, 30583}, {15, 4, 65535}, {16, 4, 0}, {-1, 4, 65535}, {-15, 4, 4369},
		{0, 8, 0}, {1, 8, 257}, {128, 8, 32896}, {255, 8, 65535}, {256, 8, 0}, {-1, 8, 65535}, {-255, 8, 257},
		{0, 16, 0}, {1, 16, 1}, {32768, 16, 32768}, {65535, 16, 65535}, {65536, 16, 0}, {-1, 16, 65535}, {-65535, 16, 1},
		{math.MaxInt, 8, 65535}, {math.MinInt, 8, 0}, {math.MinInt + 1, 16, 1},
	} {
		wantWide(t, c[0], c[1], c[2])
	}
}

// P11.1: each sample of each depth, and those beyond it.
func TestAllWide(t *testing.T) {
	for _, depth := range depths {
		for v := -70000; v <= 140000; v++ {
			if v < 0 || v > 70000 {
				v += 6
			}
			wantWide(t, v, depth, wideModel(v, depth))
		}
	}
}
