package samples_test

import (
	"math"
	"math/rand"
	"slices"
	"strings"
	"testing"

	"vitrine/api"
)

// P11.2: pixels of each colour type, worked out by hand.
func TestPixelsByHand(t *testing.T) {
	for _, c := range []struct {
		s    api.Shape
		list []int
		want string
	}{
		{shape(api.Grey, 1), []int{0}, "\x00\x00\x00\x00\x00\x00\xff\xff"},
		{shape(api.Grey, 1), []int{1}, "\xff\xff\xff\xff\xff\xff\xff\xff"},
		{shape(api.Grey, 2), []int{2}, "\xaa\xaa\xaa\xaa\xaa\xaa\xff\xff"},
		{shape(api.Grey, 4), []int{3}, "\x33\x33\x33\x33\x33\x33\xff\xff"},
		{shape(api.Grey, 8), []int{128}, "\x80\x80\x80\x80\x80\x80\xff\xff"},
		{shape(api.Grey, 16), []int{258}, "\x01\x02\x01\x02\x01\x02\xff\xff"},
		{shape(api.RGB, 8), []int{1, 2, 3}, "\x01\x01\x02\x02\x03\x03\xff\xff"},
		{shape(api.RGB, 16), []int{258, 772, 65535}, "\x01\x02\x03\x04\xff\xff\xff\xff"},
		{shape(api.RGB, 2), []int{1, 2, 3}, "\x55\x55\xaa\xaa\xff\xff\xff\xff"},
		{shape(api.GreyA, 8), []int{1, 2}, "\x01\x01\x01\x01\x01\x01\x02\x02"},
		{shape(api.GreyA, 16), []int{258, 3}, "\x01\x02\x01\x02\x01\x02\x00\x03"},
		{shape(api.GreyA, 4), []int{1, 0}, "\x11\x11\x11\x11\x11\x11\x00\x00"},
		{shape(api.RGBA, 8), []int{1, 2, 3, 4}, "\x01\x01\x02\x02\x03\x03\x04\x04"},
		{shape(api.RGBA, 16), []int{1, 2, 3, 4}, "\x00\x01\x00\x02\x00\x03\x00\x04"},
		{shape(api.RGBA, 1), []int{1, 0, 1, 0}, "\xff\xff\x00\x00\xff\xff\x00\x00"},
		{withPalette(shape(api.Palette, 8), "abcdef"), []int{0}, "aabbcc\xff\xff"},
		{withPalette(shape(api.Palette, 8), "abcdef"), []int{1}, "ddeeff\xff\xff"},
		{withTrans(withPalette(shape(api.Palette, 1), "abcdef"), "\x07\x00"), []int{0}, "aabbcc\x07\x07"},
		{withTrans(withPalette(shape(api.Palette, 1), "abcdef"), "\x07\x00"), []int{1}, "ddeeff\x00\x00"},
	} {
		wantPixel(t, c.s, c.list, c.want, api.OK)
	}
}

// full is a palette with a colour for each sample of a depth.
func full(depth int) string {
	var palette []byte
	for i := range 3 << depth {
		palette = append(palette, byte(i*7+i>>8))
	}
	return string(palette)
}

// P11.2: each colour type with each depth, with each number of samples up to one too many, and samples up to one too great: all that are wrong are ErrArg.
func TestCountsOfSamples(t *testing.T) {
	for colour := -1; colour <= 9; colour++ {
		for _, depth := range depths {
			s := withPalette(shape(colour, depth), full(depth))
			for length := range 6 {
				list := slices.Repeat([]int{1}, length)
				pixelLikeModel(t, s, list...)
				pixelLikeModel(t, withTrans(s, "\x00\x01"), list...)
				if n := colours[colour]; length != n || n == 0 {
					wantPixel(t, s, list, "", api.ErrArg)
				}
			}
		}
	}
}

// P11.2: a colour type that there is not is ErrArg, also without samples.
func TestWrongColours(t *testing.T) {
	wrong := []int{-1, 1, 5, 7, 8, 16, 255, math.MaxInt, math.MinInt}
	for colour := range colours {
		wrong = append(wrong, far(colour)...)
	}
	for _, colour := range wrong {
		for length := range 6 {
			wantPixel(t, withPalette(shape(colour, 8), full(8)), make([]int, length), "", api.ErrArg)
		}
	}
}

// P11.2: a depth that there is not is ErrArg.
func TestWrongDepthsOfPixels(t *testing.T) {
	for _, depth := range wrongDepths() {
		for colour, n := range colours {
			wantPixel(t, withTrans(withPalette(shape(colour, depth), full(8)), "\x00\x00"), make([]int, n), "", api.ErrArg)
		}
	}
}

// P11.2: a sample is from 0 to 2^Depth - 1, at each place; what is beyond is ErrArg.
func TestSamplesWithin(t *testing.T) {
	for colour, n := range colours {
		for _, depth := range depths {
			s := withPalette(shape(colour, depth), full(depth))
			for at := range n {
				for _, v := range []int{0, 1, modulo(-1, depth)} {
					list := make([]int, n)
					list[at] = v
					pixelLikeModel(t, s, list...)
				}
				wrong := append(far(0), append(far(1), -1, -2, 1<<depth, 1<<depth+1, -1<<depth, 1-1<<depth)...)
				for _, v := range wrong {
					list := make([]int, n)
					list[at] = v
					if v < 0 || v >= 1<<depth {
						wantPixel(t, s, list, "", api.ErrArg)
					}
				}
			}
		}
	}
}

// P11.2: nothing else of the shape matters: neither its sizes nor its interlacing, also wrong ones.
func TestRestOfShape(t *testing.T) {
	for colour, n := range colours {
		for _, depth := range depths {
			s := withPalette(shape(colour, depth), full(depth))
			list := slices.Repeat([]int{1}, n)
			want, _ := pixelModel(s, list...)
			for _, h := range []api.Head{{}, {W: -1, H: -1, Lace: -1}, {W: 1025, H: 1025, Lace: 2}, {W: 64, H: 64, Lace: 1}} {
				s.W, s.H, s.Lace = h.W, h.H, h.Lace
				wantPixel(t, s, list, want, api.OK)
			}
		}
	}
}

// P11.2: each Grey sample, with each depth, with and without transparencies that are near to it.
func TestAllGrey(t *testing.T) {
	for _, depth := range depths {
		for v := range 1 << depth {
			if depth == 16 && v%97 > 2 && v < 65530 {
				continue
			}
			s := shape(api.Grey, depth)
			grey := wideModel(v, depth)
			shown, clear := channels(grey, grey, grey, 65535), channels(grey, grey, grey, 0)
			wantPixel(t, s, []int{v}, shown, api.OK)
			for bit := range 16 {
				want := clear
				if bit < depth {
					want = shown
				}
				other := v ^ 1<<bit
				wantPixel(t, withTrans(s, string([]byte{byte(other >> 8), byte(other)})), []int{v}, want, api.OK)
			}
			wantPixel(t, withTrans(s, string([]byte{byte(v >> 8), byte(v)})), []int{v}, clear, api.OK)
			s.Trans = string([]byte{byte(v >> 8), byte(v)})
			wantPixel(t, s, []int{v}, shown, api.OK)
		}
	}
}

// P11.2: alpha is 0 only where a transparency is set, of just 2 bytes for Grey and 6 for RGB.
func TestSizesOfTrans(t *testing.T) {
	for colour, n := range map[int]int{api.Grey: 1, api.RGB: 3} {
		for _, depth := range depths {
			list := make([]int, n)
			for length := range 14 {
				s := withTrans(shape(colour, depth), strings.Repeat("\x00", length))
				want := channels(0, 0, 0, 65535)
				if length == 2*n {
					want = channels(0, 0, 0, 0)
				}
				wantPixel(t, s, list, want, api.OK)
				s.HasTrans = false
				wantPixel(t, s, list, channels(0, 0, 0, 65535), api.OK)
			}
		}
	}
}

// P11.2: the integers of an RGB transparency are equal to all three samples, or to none that counts; equal modulo 2^Depth is enough.
func TestTransOfRGB(t *testing.T) {
	for _, depth := range depths {
		top := modulo(-1, depth)
		for _, list := range [][]int{{0, 0, 0}, {1, 0, 1}, {top, 0, 1}, {top, top, top}, {0, 1, top}} {
			trans := []byte{0, 0, 0, 0, 0, 0}
			for i, v := range list {
				trans[2*i], trans[2*i+1] = byte(v>>8), byte(v)
			}
			colour := func(alpha int) string {
				return channels(wideModel(list[0], depth), wideModel(list[1], depth), wideModel(list[2], depth), alpha)
			}
			wantPixel(t, withTrans(shape(api.RGB, depth), string(trans)), list, colour(0), api.OK)
			for at := range 48 { // one bit is another one: within the depth, or beyond it
				other := slices.Clone(trans)
				other[at/8] ^= 1 << (7 - at%8)
				want := 0
				if 15-at%16 < depth {
					want = 65535
				}
				wantPixel(t, withTrans(shape(api.RGB, depth), string(other)), list, colour(want), api.OK)
			}
			if list[0] != list[2] {
				turned := string(trans[4:]) + string(trans[2:4]) + string(trans[:2])
				wantPixel(t, withTrans(shape(api.RGB, depth), turned), list, colour(65535), api.OK)
			}
		}
	}
}

// P11.2: a transparency makes no difference to GreyA and RGBA.
func TestTransOfAlpha(t *testing.T) {
	for _, depth := range depths {
		for length := range 10 {
			trans := strings.Repeat("\x00", length)
			wantPixel(t, withTrans(shape(api.GreyA, depth), trans), []int{0, 1}, channels(0, 0, 0, wideModel(1, depth)), api.OK)
			wantPixel(t, withTrans(shape(api.RGBA, depth), trans), []int{0, 0, 0, 1}, channels(0, 0, 0, wideModel(1, depth)), api.OK)
		}
	}
}

// P11.2: GreyA and RGBA with each alpha, and each pair of a grey and an alpha of a small depth.
func TestAllAlpha(t *testing.T) {
	for _, depth := range depths {
		for v := range 1 << depth {
			if depth == 16 && v%89 > 1 && v < 65530 {
				continue
			}
			pixelLikeModel(t, shape(api.GreyA, depth), 1, v)
			pixelLikeModel(t, shape(api.GreyA, depth), v, 0)
			for at := range 4 {
				list := []int{1, 0, 1, 1}
				list[at] = v
				pixelLikeModel(t, shape(api.RGBA, depth), list...)
				pixelLikeModel(t, shape(api.RGB, depth), list[:3]...)
			}
		}
	}
	for pair := range lists(2, 16) {
		pixelLikeModel(t, shape(api.GreyA, 4), pair...)
	}
	for four := range lists(4, 4) {
		pixelLikeModel(t, shape(api.RGBA, 2), four...)
	}
}

// P11.2: a palette needs the 3 bytes from the position of the sample on: 0, 1 or 2 are ErrIndex.
func TestSizesOfPalettes(t *testing.T) {
	for _, depth := range depths {
		for _, at := range []int{0, 1, 2, 3, 7, 15, 16, 254, 255, 256, 65535} {
			if at >= 1<<depth {
				continue
			}
			for more := -3; more <= 4; more++ {
				size := 3*at + more
				if size < 0 {
					continue
				}
				palette := strings.Repeat("x", size)
				want, e := channels('x'*257, 'x'*257, 'x'*257, 65535), api.OK
				if more < 3 {
					want, e = "", api.ErrIndex
				}
				wantPixel(t, withPalette(shape(api.Palette, depth), palette), []int{at}, want, e)
				if more < 3 {
					wantPixel(t, withTrans(withPalette(shape(api.Palette, depth), palette), strings.Repeat("t", at+1)), []int{at}, want, e)
				}
			}
		}
	}
	wantPixel(t, withPalette(shape(api.Palette, 16), strings.Repeat("x", 768)), []int{256}, "", api.ErrIndex)
	wantPixel(t, shape(api.Palette, 8), []int{0}, "", api.ErrIndex)
}

// P11.2: alpha is the byte of the transparency at the position of the sample, where there is one and it is set.
func TestTransOfPalettes(t *testing.T) {
	for _, depth := range []int{1, 2, 4, 8} {
		s := withPalette(shape(api.Palette, depth), full(depth))
		for at := range 1 << depth {
			colour := func(alpha int) string {
				p := s.Palette[3*at:]
				return channels(int(p[0])*257, int(p[1])*257, int(p[2])*257, alpha*257)
			}
			wantPixel(t, s, []int{at}, colour(255), api.OK)
			for _, length := range []int{0, 1, at - 1, at, at + 1, at + 2, 1 << depth, 300} {
				if length < 0 {
					continue
				}
				trans := make([]byte, length)
				for i := range trans {
					trans[i] = byte(3*i + 1)
				}
				want := 255
				if at < length {
					want = int(byte(3*at + 1))
				}
				wantPixel(t, withTrans(s, string(trans)), []int{at}, colour(want), api.OK)
				unset := withTrans(s, string(trans))
				unset.HasTrans = false
				wantPixel(t, unset, []int{at}, colour(255), api.OK)
			}
		}
	}
}

// P11.2: each byte of a colour and of a transparency in a palette.
func TestBytesOfPalettes(t *testing.T) {
	for b := range 256 {
		one := string([]byte{byte(b)})
		s := withTrans(withPalette(shape(api.Palette, 1), "abc"+"x"+one+"z"), "t"+one)
		wantPixel(t, s, []int{1}, channels('x'*257, b*257, 'z'*257, b*257), api.OK)
	}
}

// P11.2: where several errors apply, ErrArg is ahead of ErrIndex; each combination of what can be wrong.
func TestOrderOfErrors(t *testing.T) {
	for _, palette := range []string{"", "abc", full(8)} {
		for _, colour := range []int{-1, 0, 1, 2, 3, 4, 5, 6, 7} {
			for _, depth := range []int{0, 1, 3, 8, 16, 17} {
				for _, list := range [][]int{nil, {0}, {2}, {256}, {65536}, {-1}, {0, 0}, {0, -1}, {0, 0, 0}, {0, 256, 0}, {0, 0, 0, 0}, {0, 0, 0, 65536}, {0, 0, 0, 0, 0}} {
					pixelLikeModel(t, withPalette(shape(colour, depth), palette), list...)
					pixelLikeModel(t, withTrans(withPalette(shape(colour, depth), palette), "\x00\x00"), list...)
				}
			}
		}
	}
	wantPixel(t, shape(api.Palette, 8), []int{256}, "", api.ErrArg)
	wantPixel(t, shape(api.Palette, 8), []int{0, 0}, "", api.ErrArg)
	wantPixel(t, shape(api.Palette, 8), nil, "", api.ErrArg)
	wantPixel(t, shape(api.Palette, 3), []int{0}, "", api.ErrArg)
	wantPixel(t, shape(api.Palette, 8), []int{-1}, "", api.ErrArg)
	wantPixel(t, shape(api.Palette, 8), []int{255}, "", api.ErrIndex)
}

// P11.2: random shapes and samples, near to what is right.
func TestRandomPixels(t *testing.T) {
	r := rand.New(rand.NewSource(12))
	for range 20000 {
		s := shape([]int{0, 2, 3, 4, 6}[r.Intn(5)], depths[r.Intn(5)])
		s.Palette = full(8)[:r.Intn(20)]
		s.Trans = strings.Repeat("\x00\x01", 4)[:r.Intn(8)]
		s.HasTrans = r.Intn(3) > 0
		list := make([]int, colours[s.Colour])
		for i := range list {
			list[i] = r.Intn(3)
		}
		if r.Intn(20) == 0 {
			list = append(list, 0)
		}
		pixelLikeModel(t, s, list...)
	}
}
