package samples_test

import (
	"fmt"
	"math"
	"math/big"
	"slices"
	"strconv"
	"strings"
	"testing"

	"vitrine/api"
	"vitrine/samples"
)

// depths are all that there are.
var depths = []int{1, 2, 4, 8, 16}

// colours are all that there are, and how many samples a pixel of each has.
var colours = map[int]int{api.Grey: 1, api.RGB: 3, api.Palette: 1, api.GreyA: 2, api.RGBA: 4}

// wrongDepths are near to a depth, or have its low bits.
func wrongDepths() []int {
	list := []int{0, 3, 5, 6, 7, 9, 10, 12, 15, 17, 24, 31, 32, 33, 63, 64, 65, 128, 255, 256, math.MaxInt, math.MinInt, math.MaxInt32, math.MinInt32}
	for _, d := range depths {
		list = append(list, far(d)...)
		list = append(list, -d)
	}
	return list
}

// far are numbers whose lowest bytes are those of a small one, and the ends of the kinds of integers.
func far(n int) []int {
	return []int{n + 1<<8, n - 1<<8, n + 1<<16, n + 1<<31, n + 1<<32, n - 1<<32, n + 1<<40, n + 1<<62, math.MinInt + n, math.MaxInt - n, math.MinInt32 + n, math.MaxInt32 - n}
}

// lists tells each list of a length of values below a number.
func lists(length, below int) func(yield func([]int) bool) {
	return func(yield func([]int) bool) {
		list := make([]int, length)
		for {
			if !yield(list) {
				return
			}
			at := 0
			for ; at < length; at++ {
				if list[at]++; list[at] < below {
					break
				}
				list[at] = 0
			}
			if at == length {
				return
			}
		}
	}
}

// bitsOf is the bits of a row as text, the most significant one of each byte first.
func bitsOf(row string) string {
	var text strings.Builder
	for i := range len(row) {
		fmt.Fprintf(&text, "%08b", row[i])
	}
	return text.String()
}

// modulo is v modulo 2^depth, which is not negative.
func modulo(v, depth int) int {
	power := new(big.Int).Exp(big.NewInt(2), big.NewInt(int64(depth)), nil)
	return int(new(big.Int).Mod(big.NewInt(int64(v)), power).Int64())
}

// unpackModel is Unpack in the chapter's words.
func unpackModel(row string, depth, n int) ([]int, api.Errno) {
	if !slices.Contains(depths, depth) || n < 0 || n > 4096 {
		return nil, api.ErrArg
	}
	bits := bitsOf(row)
	if len(bits) < n*depth {
		return nil, api.ErrShort
	}
	var list []int
	for range n {
		v, _ := strconv.ParseUint(bits[:depth], 2, 16)
		list = append(list, int(v))
		bits = bits[depth:]
	}
	return list, api.OK
}

// packModel is Pack in the chapter's words.
func packModel(depth int, list ...int) (string, api.Errno) {
	if !slices.Contains(depths, depth) {
		return "", api.ErrArg
	}
	var text strings.Builder
	for _, v := range list {
		fmt.Fprintf(&text, "%0*b", depth, modulo(v, depth))
	}
	for text.Len()%8 != 0 {
		text.WriteString("0")
	}
	var row []byte
	for bits := text.String(); bits != ""; bits = bits[8:] {
		v, _ := strconv.ParseUint(bits[:8], 2, 8)
		row = append(row, byte(v))
	}
	return string(row), api.OK
}

// wideModel is Wide in the chapter's words.
func wideModel(v, depth int) int {
	if !slices.Contains(depths, depth) {
		return 0
	}
	return modulo(v, depth) * 65535 / (modulo(-1, depth))
}

// channels is a pixel.
func channels(red, green, blue, alpha int) string {
	var pixel []byte
	for _, v := range []int{red, green, blue, alpha} {
		pixel = append(pixel, byte(v/256), byte(v%256))
	}
	return string(pixel)
}

// clearModel tells whether the transparency makes alpha 0, in the chapter's words.
func clearModel(s api.Shape, list []int) bool {
	size := map[int]int{api.Grey: 2, api.RGB: 6}[s.Colour]
	if !s.HasTrans || len(s.Trans) != size {
		return false
	}
	same := 0
	for i, v := range list {
		if modulo(int(s.Trans[2*i])*256+int(s.Trans[2*i+1]), s.Depth) == v {
			same++
		}
	}
	return same == len(list)
}

// pixelModel is Pixel in the chapter's words.
func pixelModel(s api.Shape, list ...int) (string, api.Errno) {
	count, ok := colours[s.Colour]
	if !ok || len(list) != count || !slices.Contains(depths, s.Depth) {
		return "", api.ErrArg
	}
	if slices.ContainsFunc(list, func(v int) bool { return v != modulo(v, s.Depth) }) {
		return "", api.ErrArg
	}
	wide := func(i int) int { return wideModel(list[i], s.Depth) }
	alpha := 65535
	switch s.Colour {
	case api.Grey, api.RGB:
		if clearModel(s, list) {
			alpha = 0
		}
		return channels(wide(0), wide(count/2), wide(count-1), alpha), api.OK
	case api.GreyA:
		return channels(wide(0), wide(0), wide(0), wide(1)), api.OK
	case api.RGBA:
		return channels(wide(0), wide(1), wide(2), wide(3)), api.OK
	}
	at := list[0]
	if len(s.Palette)-3*at < 3 {
		return "", api.ErrIndex
	}
	if s.HasTrans && len(s.Trans) > at {
		alpha = int(s.Trans[at]) * 257
	}
	colour := s.Palette[3*at : 3*at+3]
	return channels(int(colour[0])*257, int(colour[1])*257, int(colour[2])*257, alpha), api.OK
}

// shape is one of an image of one pixel, without a palette and a transparency.
func shape(colour, depth int) api.Shape {
	return api.Shape{Head: api.Head{W: 1, H: 1, Depth: depth, Colour: colour}}
}

// withTrans is a shape with a transparency.
func withTrans(s api.Shape, trans string) api.Shape {
	s.Trans, s.HasTrans = trans, true
	return s
}

// withPalette is a shape with a palette.
func withPalette(s api.Shape, palette string) api.Shape {
	s.Palette = palette
	return s
}

// short is the beginning of a value as text.
func short(v any) string {
	text := fmt.Sprintf("%+v", v)
	if row, ok := v.(string); ok {
		text = fmt.Sprintf("%x", row)
	}
	if len(text) > 100 {
		return text[:100] + ".."
	}
	return text
}

// wantUnpack holds what Unpack returns against what is wanted.
func wantUnpack(t *testing.T, row string, depth, n int, want []int, wantE api.Errno) {
	t.Helper()
	got, e := samples.Unpack(row, depth, n)
	if !slices.Equal(got, want) || e != wantE {
		t.Errorf("Unpack(%s, %d, %d) is %s, %d, not %s, %d", short(row), depth, n, short(got), e, short(want), wantE)
	}
}

// wantPack holds what Pack returns against what is wanted.
func wantPack(t *testing.T, depth int, list []int, want string, wantE api.Errno) {
	t.Helper()
	got, e := samples.Pack(depth, list...)
	if got != want || e != wantE {
		t.Errorf("Pack(%d, %s) is %s, %d, not %s, %d", depth, short(list), short(got), e, short(want), wantE)
	}
}

// wantWide holds what Wide returns against what is wanted.
func wantWide(t *testing.T, v, depth, want int) {
	t.Helper()
	if got := samples.Wide(v, depth); got != want {
		t.Errorf("Wide(%d, %d) is %d, not %d", v, depth, got, want)
	}
}

// wantPixel holds what Pixel returns against what is wanted.
func wantPixel(t *testing.T, s api.Shape, list []int, want string, wantE api.Errno) {
	t.Helper()
	got, e := samples.Pixel(s, list...)
	if got != want || e != wantE {
		t.Errorf("Pixel(%s, %v) is %x, %d, not %x, %d", short(s), list, got, e, want, wantE)
	}
}

// unpackLikeModel holds Unpack against the model.
func unpackLikeModel(t *testing.T, row string, depth, n int) {
	t.Helper()
	want, e := unpackModel(row, depth, n)
	wantUnpack(t, row, depth, n, want, e)
}

// packLikeModel holds Pack against the model.
func packLikeModel(t *testing.T, depth int, list ...int) {
	t.Helper()
	want, e := packModel(depth, list...)
	wantPack(t, depth, list, want, e)
}

// pixelLikeModel holds Pixel against the model.
func pixelLikeModel(t *testing.T, s api.Shape, list ...int) {
	t.Helper()
	want, e := pixelModel(s, list...)
	wantPixel(t, s, list, want, e)
}
