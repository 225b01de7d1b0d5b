package pixel_test

import (
	"math/rand"
	"strings"
	"testing"

	"vitrine/api"
)

// P12.2: image data of each colour type and depth, with its pixels, worked out by hand. Many rows have bits behind their last sample.
func TestFormatsByHand(t *testing.T) {
	colours := "abcdefghijkl"
	for _, c := range []struct {
		f    format
		w, h int
		raw  string
		want string
	}{
		{format{api.Grey, 1, 1}, 3, 1, "\x00\xa0", greys(255, 0, 255)},
		{format{api.Grey, 1, 1}, 3, 1, "\x00\xbf", greys(255, 0, 255)},
		{format{api.Grey, 1, 1}, 9, 1, "\x00\x01\x80", greys(0, 0, 0, 0, 0, 0, 0, 255, 255)},
		{format{api.Grey, 2, 1}, 4, 1, "\x00\x1b", greys(0, 0x55, 0xaa, 255)},
		{format{api.Grey, 2, 1}, 1, 2, "\x00\x80\x00\x40", greys(0xaa, 0x55)},
		{format{api.Grey, 4, 1}, 3, 1, "\x00\x0f\x30", greys(0, 255, 0x33)},
		{format{api.Grey, 8, 1}, 1, 1, "\x00\x80", greys(0x80)},
		{format{api.Grey, 8, 1}, 2, 2, "\x00\x01\x02\x00\x03\x04", greys(1, 2, 3, 4)},
		{format{api.Grey, 16, 1}, 2, 1, "\x00\x01\x02\x03\x04", channels(258, 258, 258, 65535) + channels(772, 772, 772, 65535)},
		{format{api.RGB, 8, 3}, 2, 1, "\x00\x01\x02\x03\x04\x05\x06", channels(257, 514, 771, 65535) + channels(1028, 1285, 1542, 65535)},
		{format{api.RGB, 16, 3}, 1, 2, "\x00\x01\x02\x03\x04\x05\x06\x00\x07\x08\x09\x0a\x0b\x0c", "\x01\x02\x03\x04\x05\x06\xff\xff\x07\x08\x09\x0a\x0b\x0c\xff\xff"},
		{format{api.Palette, 1, 1}, 2, 1, "\x00\x40", "aabbcc\xff\xffddeeff\xff\xff"},
		{format{api.Palette, 2, 1}, 4, 1, "\x00\x1b", "aabbcc\xff\xffddeeff\xff\xffgghhii\xff\xffjjkkll\xff\xff"},
		{format{api.Palette, 4, 1}, 3, 1, "\x00\x10\x3f", "ddeeff\xff\xffaabbcc\xff\xffjjkkll\xff\xff"},
		{format{api.Palette, 8, 1}, 2, 1, "\x00\x02\x00", "gghhii\xff\xffaabbcc\xff\xff"},
		{format{api.GreyA, 8, 2}, 2, 1, "\x00\x01\x02\x03\x04", channels(257, 257, 257, 514) + channels(771, 771, 771, 1028)},
		{format{api.GreyA, 16, 2}, 1, 1, "\x00\x01\x02\x03\x04", channels(258, 258, 258, 772)},
		{format{api.RGBA, 8, 4}, 1, 2, "\x00\x01\x02\x03\x04\x00\x05\x06\x07\x00", channels(257, 514, 771, 1028) + channels(1285, 1542, 1799, 0)},
		{format{api.RGBA, 16, 4}, 2, 1, "\x00abcdefghABCDEFGH", "abcdefghABCDEFGH"},
	} {
		s := withPalette(c.f.shape(c.w, c.h, 0), colours)
		wantPix(t, s, c.raw, c.want)
		imageLikeModel(t, s, c.raw)
	}
}

// P12.2: rows of each type of filter, worked out by hand: what is ahead by the bytes of a pixel, and the row above.
func TestFiltersByHand(t *testing.T) {
	for _, c := range []struct {
		f    format
		w, h int
		raw  string
		want string
	}{
		{format{api.Grey, 8, 1}, 3, 2, "\x01\x01\x01\x01\x02\x01\x01\x01", greys(1, 2, 3, 2, 3, 4)},
		{format{api.Grey, 8, 1}, 3, 1, "\x02\x01\x01\x01", greys(1, 1, 1)},
		{format{api.Grey, 8, 1}, 3, 2, "\x00\x0a\x14\x1e\x03\x01\x01\x01", greys(10, 20, 30, 6, 14, 23)},
		{format{api.Grey, 8, 1}, 3, 1, "\x03\x0a\x0a\x0a", greys(10, 15, 17)},
		{format{api.Grey, 8, 1}, 3, 2, "\x00\x0a\x14\x1e\x04\x01\x01\x01", greys(10, 20, 30, 11, 21, 31)},
		{format{api.Grey, 8, 1}, 3, 1, "\x04\x0a\x01\xff", greys(10, 11, 10)},
		{format{api.Grey, 8, 1}, 1, 3, "\x02\xff\x02\x02\x02\x01", greys(255, 1, 2)},
		{format{api.Grey, 1, 1}, 16, 1, "\x01\x80\x80", greys(255, 0, 0, 0, 0, 0, 0, 0, 0, 0, 0, 0, 0, 0, 0, 0)},
		{format{api.Grey, 4, 1}, 4, 1, "\x01\x12\x11", greys(0x11, 0x22, 0x22, 0x33)},
		{format{api.Grey, 16, 1}, 2, 1, "\x01\x01\x02\x01\x01", channels(258, 258, 258, 65535) + channels(515, 515, 515, 65535)},
		{format{api.RGB, 8, 3}, 2, 1, "\x01\x01\x02\x03\x01\x01\x01", channels(257, 514, 771, 65535) + channels(514, 771, 1028, 65535)},
		{format{api.RGB, 16, 3}, 2, 1, "\x01abcdef\x01\x01\x01\x01\x01\x01", "abcdef\xff\xffbcdefg\xff\xff"},
		{format{api.GreyA, 8, 2}, 2, 1, "\x01\x01\x02\x01\x01", channels(257, 257, 257, 514) + channels(514, 514, 514, 771)},
		{format{api.GreyA, 16, 2}, 2, 1, "\x01\x01\x02\x03\x04\x01\x01\x01\x01", channels(258, 258, 258, 772) + channels(515, 515, 515, 1029)},
		{format{api.RGBA, 8, 4}, 2, 1, "\x01\x01\x02\x03\x04\x01\x01\x01\x01", channels(257, 514, 771, 1028) + channels(514, 771, 1028, 1285)},
		{format{api.RGBA, 16, 4}, 2, 1, "\x01abcdefgh\x01\x01\x01\x01\x01\x01\x01\x01", "abcdefghbcdefghi"},
		{format{api.RGBA, 16, 4}, 1, 2, "\x00abcdefgh\x02\x01\x01\x01\x01\x01\x01\x01\x01", "abcdefghbcdefghi"},
	} {
		s := c.f.shape(c.w, c.h, 0)
		wantPix(t, s, c.raw, c.want)
		imageLikeModel(t, s, c.raw)
	}
}

// P12.2: the row above is the unfiltered one, with the bits behind its last sample.
func TestBitsBehindRows(t *testing.T) {
	s := format{api.Grey, 4, 1}.shape(1, 2, 0)
	wantPix(t, s, "\x00\x1f\x02\x01", greys(0x11, 0x22))
	wantPix(t, s, "\x00\x1f\x02\xf1", greys(0x11, 0x11))
	wantPix(t, s, "\x00\x10\x02\x0f", greys(0x11, 0x11))
	wantPix(t, format{api.Grey, 1, 1}.shape(9, 2, 0), "\x00\x00\x7f\x02\x00\x01", greys(make([]byte, 17)...)+greys(255))
}

// P12.2: the passes of interlaced images, worked out by hand: each pixel of 8 by 8 is the number of its pass, and of smaller ones the number of its place.
func TestPassesByHand(t *testing.T) {
	eight := "\x00\x01" + "\x00\x02" + "\x00\x03\x03" + strings.Repeat("\x00\x04\x04", 2) + strings.Repeat("\x00\x05\x05\x05\x05", 2) + strings.Repeat("\x00\x06\x06\x06\x06", 4) + strings.Repeat("\x00\x07\x07\x07\x07\x07\x07\x07\x07", 4)
	wantPix(t, grey(8, 8, 1), eight, greys(
		1, 6, 4, 6, 2, 6, 4, 6,
		7, 7, 7, 7, 7, 7, 7, 7,
		5, 6, 5, 6, 5, 6, 5, 6,
		7, 7, 7, 7, 7, 7, 7, 7,
		3, 6, 4, 6, 3, 6, 4, 6,
		7, 7, 7, 7, 7, 7, 7, 7,
		5, 6, 5, 6, 5, 6, 5, 6,
		7, 7, 7, 7, 7, 7, 7, 7,
	))
	for _, c := range []struct {
		w, h int
		raw  string
		want string
	}{
		{1, 1, "\x00\x01", greys(1)},
		{2, 1, "\x00\x01" + "\x00\x02", greys(1, 2)},
		{1, 2, "\x00\x01" + "\x00\x02", greys(1, 2)},
		{3, 1, "\x00\x01" + "\x00\x03" + "\x00\x02", greys(1, 2, 3)},
		{1, 3, "\x00\x01" + "\x00\x03" + "\x00\x02", greys(1, 2, 3)},
		{5, 1, "\x00\x01" + "\x00\x05" + "\x00\x03" + "\x00\x02\x04", greys(1, 2, 3, 4, 5)},
		{1, 5, "\x00\x01" + "\x00\x05" + "\x00\x03" + "\x00\x02\x00\x04", greys(1, 2, 3, 4, 5)},
		{9, 1, "\x00\x01\x09" + "\x00\x05" + "\x00\x03\x07" + "\x00\x02\x04\x06\x08", greys(1, 2, 3, 4, 5, 6, 7, 8, 9)},
		{3, 2, "\x00\x01" + "\x00\x03" + "\x00\x02" + "\x00\x04\x05\x06", greys(1, 2, 3, 4, 5, 6)},
		{2, 3, "\x00\x01" + "\x00\x05" + "\x00\x02\x00\x06" + "\x00\x03\x04", greys(1, 2, 3, 4, 5, 6)},
	} {
		wantPix(t, grey(c.w, c.h, 1), c.raw, c.want)
	}
}

// P12.2: the first row of each pass has no row above, while the others have that of their pass.
func TestFirstRowsOfPasses(t *testing.T) {
	wantPix(t, grey(5, 1, 1), "\x02\x01"+"\x02\x02"+"\x02\x03"+"\x02\x04\x05", greys(1, 4, 3, 5, 2))
	wantPix(t, grey(1, 5, 1), "\x02\x01"+"\x02\x02"+"\x02\x03"+"\x02\x04\x02\x05", greys(1, 4, 3, 9, 2))
	wantPix(t, grey(1, 9, 1), "\x02\x01\x02\x01"+"\x02\x01"+"\x02\x01\x02\x01"+"\x02\x01\x02\x01\x02\x01\x02\x01", greys(1, 1, 1, 2, 1, 3, 2, 4, 2))
	for kind := range 5 {
		for _, f := range formats() {
			for _, size := range [][2]int{{5, 1}, {1, 5}, {8, 8}, {9, 9}, {17, 17}} {
				for _, lace := range []int{0, 1} {
					s := f.shape(size[0], size[1], lace)
					raw := noise(kind, sizeOf(s.Head))
					imageLikeModel(t, s, withKinds(s.Head, raw, func(n int) int { return (n + kind) % 5 }))
					imageLikeModel(t, s, withKinds(s.Head, raw, all(kind)))
				}
			}
		}
	}
}

// starts are the places of the types of filter in an image's data.
func starts(h api.Head) []int {
	f, _ := formatOf(h)
	var list []int
	at := 0
	for _, r := range rowsOf(h) {
		list = append(list, at)
		at += 1 + f.bytesOf(len(r.at))
	}
	return list
}

// withKinds is image data with other types of filter.
func withKinds(h api.Head, raw string, kind func(n int) int) string {
	data := []byte(raw)
	for n, at := range starts(h) {
		data[at] = byte(kind(n))
	}
	return string(data)
}

// P12.2: each colour type with each of its depths and transparencies, interlaced and not, in sizes with passes that have no rows or no columns, and with rows whose last byte is not full.
func TestAllFormats(t *testing.T) {
	rnd := rand.New(rand.NewSource(121))
	for _, f := range formats() {
		for w := 1; w <= 10; w++ {
			for h := 1; h <= 10; h++ {
				for _, lace := range []int{0, 1} {
					for _, s := range f.shapes(w, h, lace) {
						for _, below := range []int{2, 1 << f.depth} {
							p := pictureOf(rnd, s, below)
							wantImage(t, s, p.data(mixed), p.raster(), api.OK)
						}
					}
				}
			}
		}
	}
}

// P12.2: images that are as large as they can be, and long ones.
func TestGreatest(t *testing.T) {
	rnd := rand.New(rand.NewSource(122))
	for _, f := range formats() {
		for _, size := range [][2]int{{64, 64}, {1024, 4}, {4, 1024}, {1024, 1}, {1, 1024}, {1023, 3}, {63, 65}} {
			for _, lace := range []int{0, 1} {
				s := f.shape(size[0], size[1], lace)
				p := pictureOf(rnd, s, 1<<f.depth)
				wantImage(t, s, p.data(mixed), p.raster(), api.OK)
			}
		}
	}
}

// P12.2: each sample of a depth of up to 8 bits, at places near to each other.
func TestEachSample(t *testing.T) {
	for _, f := range formats() {
		for v := range min(1<<f.depth, 256) {
			s := f.shape(1, 1, 0)
			list := make([]int, f.samples)
			for i := range list {
				list[i] = (v + 7*i) % (1 << f.depth)
			}
			p := picture{shape: s, samples: [][]int{list}}
			wantImage(t, s, p.data(all(v%5)), p.raster(), api.OK)
		}
	}
}

// P12.2: a transparency of Grey or RGB makes the pixels of its colour clear, and no others; one that is not set, or not of just its bytes, none.
func TestTransparentColours(t *testing.T) {
	for _, lace := range []int{0, 1} {
		s := grey(3, 1, lace)
		raw := map[int]string{0: "\x00\x05\x06\x05", 1: "\x00\x05\x00\x05\x00\x06"}[lace]
		clear := strings.ReplaceAll(greys(5, 6, 5), "\x05\x05\xff\xff", "\x05\x05\x00\x00")
		wantPix(t, s, raw, greys(5, 6, 5))
		wantPix(t, withTrans(s, "\x00\x05"), raw, clear)
		wantPix(t, withTrans(s, "\x01\x05"), raw, clear)
		wantPix(t, withTrans(s, "\x00\x07"), raw, greys(5, 6, 5))
		wantPix(t, withTrans(s, "\x05"), raw, greys(5, 6, 5))
		wantPix(t, withTrans(s, "\x00\x05\x00\x05\x00\x05"), raw, greys(5, 6, 5))
		unset := withTrans(s, "\x00\x05")
		unset.HasTrans = false
		wantPix(t, unset, raw, greys(5, 6, 5))
	}
	s := format{api.RGB, 8, 3}.shape(2, 1, 0)
	raw := "\x00\x01\x02\x03\x03\x02\x01"
	first, last := channels(257, 514, 771, 65535), channels(771, 514, 257, 65535)
	wantPix(t, s, raw, first+last)
	wantPix(t, withTrans(s, "\x00\x01\x00\x02\x00\x03"), raw, channels(257, 514, 771, 0)+last)
	wantPix(t, withTrans(s, "\x00\x03\x00\x02\x00\x01"), raw, first+channels(771, 514, 257, 0))
	wantPix(t, withTrans(s, "\x00\x01"), raw, first+last)
}

// P12.2: a transparency of a Palette is the alpha of the colours that it has; it makes no difference to GreyA and RGBA.
func TestTransparentPlaces(t *testing.T) {
	s := withPalette(format{api.Palette, 2, 1}.shape(3, 1, 0), "abcdefghi")
	wantPix(t, s, "\x00\x18", "aabbcc\xff\xffddeeff\xff\xffgghhii\xff\xff")
	wantPix(t, withTrans(s, ""), "\x00\x18", "aabbcc\xff\xffddeeff\xff\xffgghhii\xff\xff")
	wantPix(t, withTrans(s, "\x00"), "\x00\x18", "aabbcc\x00\x00ddeeff\xff\xffgghhii\xff\xff")
	wantPix(t, withTrans(s, "\x00x"), "\x00\x18", "aabbcc\x00\x00ddeeffxxgghhii\xff\xff")
	wantPix(t, withTrans(s, "\x00xyz"), "\x00\x18", "aabbcc\x00\x00ddeeffxxgghhiiyy")
	unset := withTrans(s, "\x00xy")
	unset.HasTrans = false
	wantPix(t, unset, "\x00\x18", "aabbcc\xff\xffddeeff\xff\xffgghhii\xff\xff")
	wantPix(t, withTrans(format{api.GreyA, 8, 2}.shape(1, 1, 0), "\x00\x01"), "\x00\x01\x02", channels(257, 257, 257, 514))
	wantPix(t, withTrans(format{api.RGBA, 8, 4}.shape(1, 1, 0), "\x00\x01\x00\x02\x00\x03"), "\x00\x01\x02\x03\x04", channels(257, 514, 771, 1028))
}

// P12.2: random data with any types of filter, palettes and transparencies.
func TestRandomData(t *testing.T) {
	rnd := rand.New(rand.NewSource(123))
	seen := map[api.Errno]int{}
	for n := range 6000 {
		f := formats()[rnd.Intn(15)]
		s := f.shape(1+rnd.Intn(12), 1+rnd.Intn(12), rnd.Intn(2))
		s.Trans = noise(n, rnd.Intn(8))
		s.HasTrans = rnd.Intn(3) > 0
		if rnd.Intn(3) == 0 {
			s.Palette = s.Palette[:rnd.Intn(len(s.Palette)+1)]
		}
		kinds := 5
		if rnd.Intn(4) == 0 {
			kinds = 6
		}
		raw := withKinds(s.Head, noise(-n, sizeOf(s.Head)), func(int) int { return rnd.Intn(kinds) })
		imageLikeModel(t, s, raw)
		_, e := imageModel(s, raw)
		seen[e]++
	}
	for _, e := range []api.Errno{api.OK, api.ErrFilter, api.ErrIndex} {
		if seen[e] < 200 {
			t.Errorf("%d only %d times", e, seen[e])
		}
	}
}
