package bands_test

import (
	"math/rand"
	"strings"
	"testing"

	"vitrine/api"
	"vitrine/bands"
)

// edgeSides are widths and heights at the limits and beyond them, and such as are others if some of their bytes are lost or in another order.
func edgeSides() []uint32 {
	return []uint32{0, 1, 2, 3, 4, 7, 8, 9, 16, 17, 63, 64, 65, 255, 256, 512, 1023, 1024, 1025, 2048, 4096, 65535, 65536, 65537, 1 << 16, 1<<24 + 1, 1 << 24, 8 << 24, 1<<30 + 1, 1 << 31, 1<<31 - 1, 1<<31 + 1, 1<<31 + 8, 1<<32 - 8, 1<<32 - 7, 1<<32 - 1}
}

// heights are such at which the number of bands changes.
func heights() []int { return []int{1, 2, 7, 8, 9, 15, 16, 17, 24, 25, 1016, 1017, 1023, 1024} }

// bandsOf is how many bands a raster of this height has, in the chapter's words.
func bandsOf(h int) int { return len(cutModel(api.Raster{H: h})) }

// P15.2: manifests that are written out.
func TestReadByHand(t *testing.T) {
	one, two := strings.Repeat("1", 32), strings.Repeat("2", 32)
	for _, c := range []struct {
		manifest string
		w, h     int
		list     []string
	}{
		{"\x00\x00\x00\x01\x00\x00\x00\x01" + one, 1, 1, []string{one}},
		{"\x00\x00\x00\x02\x00\x00\x00\x03" + two, 2, 3, []string{two}},
		{"\x00\x00\x00\x05\x00\x00\x00\x08" + one, 5, 8, []string{one}},
		{"\x00\x00\x00\x05\x00\x00\x00\x09" + one + two, 5, 9, []string{one, two}},
		{"\x00\x00\x00\x05\x00\x00\x00\x09" + two + one, 5, 9, []string{two, one}},
		{"\x00\x00\x00\x05\x00\x00\x00\x10" + one + one, 5, 16, []string{one, one}},
		{"\x00\x00\x00\x05\x00\x00\x00\x11" + one + two + one, 5, 17, []string{one, two, one}},
		{"\x00\x00\x01\x00\x00\x00\x00\x10" + one + two, 256, 16, []string{one, two}},
		{"\x00\x00\x04\x00\x00\x00\x00\x04" + two, 1024, 4, []string{two}},
		{"\x00\x00\x01\x02\x00\x00\x00\x01" + strings.Repeat("\x00", 32), 258, 1, []string{strings.Repeat("\x00", 32)}},
		{"\x00\x00\x00\x01\x00\x00\x00\x01" + strings.Repeat("\xff", 32), 1, 1, []string{strings.Repeat("\xff", 32)}},
	} {
		wantRead(t, c.manifest, c.w, c.h, c.list, api.OK)
	}
}

// P15.2: the greatest height, with each hash at its place.
func TestReadPlaces(t *testing.T) {
	for _, sides := range []string{"\x00\x00\x00\x01\x00\x00\x04\x00", "\x00\x00\x00\x04\x00\x00\x04\x00", "\x00\x00\x00\x01\x00\x00\x03\xf9"} {
		rest := noise(3, 32*128)
		_, _, list, e := bands.Read(sides + rest)
		if len(list) != 128 || e != api.OK {
			t.Fatalf("%x: %d hashes, %d", sides, len(list), e)
		}
		for i, h := range list {
			if h != rest[32*i:32*i+32] {
				t.Errorf("%x: hash %d is %s", sides, i, short(h))
			}
		}
		readLikeModel(t, sides+rest)
	}
}

// P15.2: fewer than 8 bytes, of each length, and 8 bytes alone.
func TestReadTooShort(t *testing.T) {
	wantNoManifest(t, "")
	for _, s := range []string{"\x00\x00\x00\x01\x00\x00\x00\x01", "\x00\x00\x00\x02\x00\x00\x00\x09", "\x00\x00\x00\x00\x00\x00\x00\x00", "\x00\x00\x00\x01\x00\x00\x00\x00", "\x01\x01\x01\x01\x01\x01\x01\x01", "\xff\xff\xff\xff\xff\xff\xff\xff", "abcdefgh"} {
		for n := range len(s) + 1 {
			wantNoManifest(t, s[:n])
			wantNoManifest(t, s[8-n:])
		}
	}
	for _, w := range edgeSides() {
		for _, h := range edgeSides() {
			wantNoManifest(t, side(w)+side(h))
		}
	}
}

// P15.2: a W or an H that no raster has, with as many hashes as such a height would need, and with other numbers of them.
func TestReadSides(t *testing.T) {
	for _, bad := range []uint32{0, 1025, 2147483647, 2147483648, 4294967295} {
		for _, h := range []int{1, 4, 8, 9, 1024} {
			wantNoManifest(t, side(bad)+side(uint32(h))+hashes(32*bandsOf(h)))
		}
		for _, w := range []uint32{1, 4, 8, 1024, bad} {
			for _, n := range []int{0, 1, 2, 127, 128, 129, 130} {
				wantNoManifest(t, side(w)+side(bad)+hashes(32*n))
			}
		}
	}
	wantNoManifest(t, side(1)+side(0)+hashes(32))
	wantNoManifest(t, side(0)+side(0)+hashes(0))
	wantNoManifest(t, side(1)+side(1025)+hashes(32*129))
}

// P15.2: the greatest and the smallest sides of rasters.
func TestReadGreatestSides(t *testing.T) {
	for _, c := range []struct{ w, h, bands int }{{1024, 1, 1}, {1024, 4, 1}, {1023, 4, 1}, {512, 8, 1}, {1, 1024, 128}, {4, 1024, 128}, {64, 64, 8}, {63, 65, 9}, {455, 9, 2}, {1, 1, 1}, {1, 1023, 128}} {
		rest := noise(c.w, 32*c.bands)
		var list []string
		for i := range c.bands {
			list = append(list, rest[32*i:32*i+32])
		}
		wantRead(t, side(uint32(c.w))+side(uint32(c.h))+rest, c.w, c.h, list, api.OK)
	}
}

// P15.2: more pixels than a raster may have, each side being right by itself, with just the hashes of such a height.
func TestReadTooManyPixels(t *testing.T) {
	for _, c := range [][2]int{{64, 65}, {65, 64}, {1024, 5}, {5, 1024}, {820, 5}, {1024, 1024}, {17, 241}, {456, 9}, {513, 8}, {1023, 1023}, {512, 16}, {1024, 64}} {
		manifest := side(uint32(c[0])) + side(uint32(c[1])) + hashes(32*bandsOf(c[1]))
		wantNoManifest(t, manifest)
	}
	for w := 4; w <= 1024; w++ {
		h := 4096 / w
		readLikeModel(t, side(uint32(w))+side(uint32(h))+hashes(32*bandsOf(h)))
		wantNoManifest(t, side(uint32(w))+side(uint32(h+1))+hashes(32*bandsOf(h+1)))
	}
}

// P15.2: sides whose product is a small number if some of its bits are lost.
func TestReadProducts(t *testing.T) {
	for _, c := range [][2]uint32{{1 << 16, 1 << 16}, {1 << 31, 2}, {2, 1 << 31}, {1 << 30, 4}, {4, 1 << 30}, {1<<32 - 1, 1<<32 - 1}, {1 << 31, 1 << 31}, {1<<31 + 1, 2}, {1<<29 + 1, 8}, {1 << 24, 256}, {65537, 65535}, {641, 6700417}, {1<<32 - 1, 1}, {1, 1<<32 - 1}} {
		for _, n := range []int{0, 1, 2, 8, 128} {
			wantNoManifest(t, side(c[0])+side(c[1])+hashes(32*n))
		}
	}
}

// P15.2: one byte, one hash and many bytes fewer and more than the bands need.
func TestReadLengths(t *testing.T) {
	for _, h := range heights() {
		for _, w := range []int{1, 2, 4} {
			sides, whole := side(uint32(w))+side(uint32(h)), 32*bandsOf(h)
			readLikeModel(t, sides+hashes(whole))
			if _, _, _, e := bands.Read(sides + hashes(whole)); e != api.OK {
				t.Errorf("%d by %d is %d", w, h, e)
			}
			for _, n := range []int{0, 1, whole - 1, whole - 2, whole - 8, whole - 31, whole - 32, whole - 33, whole - 64, whole / 2, whole - 1000} {
				if n >= 0 && n < whole {
					wantNoManifest(t, sides+hashes(n))
				}
			}
			for _, n := range []int{1, 2, 8, 31, 32, 33, 64, 256, 1000, 4096, 32 * 256, 32 * 65536, whole} {
				wantNoManifest(t, sides+hashes(whole+n))
			}
		}
	}
}

// P15.2: each number of bytes behind the sides of small rasters.
func TestReadEachLength(t *testing.T) {
	for h := 1; h <= 25; h++ {
		for n := range 32*4 + 10 {
			manifest := side(3) + side(uint32(h)) + hashes(n)
			readLikeModel(t, manifest)
			if n != 32*bandsOf(h) {
				wantNoManifest(t, manifest)
			}
		}
	}
}

// P15.2: sides of all kinds together, with numbers of hashes of all kinds.
func TestReadTogether(t *testing.T) {
	for _, w := range edgeSides() {
		for _, h := range edgeSides() {
			for _, n := range []int{0, 1, 2, 3, 7, 8, 9, 16, 32, 64, 128, 129} {
				for _, more := range []int{0, 1, 31} {
					readLikeModel(t, side(w)+side(h)+hashes(32*n+more))
				}
			}
		}
	}
}

// P15.2: each of the first 8 bytes with each value.
func TestReadEachByte(t *testing.T) {
	for _, r := range []api.Raster{rasterOf(1, 1), rasterOf(2, 9), rasterOf(16, 256), rasterOf(257, 8)} {
		manifest := manifestModel(r)
		for at := range 8 {
			for b := range 256 {
				readLikeModel(t, changed(manifest, at, byte(b)))
			}
		}
	}
}

// P15.2: manifests of all widths and heights are read, with what they say.
func TestReadManifests(t *testing.T) {
	for w := 1; w <= 1024; w++ {
		for h := 1; h <= 1024 && w*h <= 4096; h++ {
			rest := hashes(32 * ((h + 7) / 8))
			gotW, gotH, list, e := bands.Read(side(uint32(w)) + side(uint32(h)) + rest)
			if gotW != w || gotH != h || strings.Join(list, "") != rest || e != api.OK {
				t.Errorf("%d by %d is %d by %d, %d hashes, %d", w, h, gotW, gotH, len(list), e)
			}
		}
	}
}

// P15.2: bytes at random.
func TestReadRandom(t *testing.T) {
	rnd := rand.New(rand.NewSource(152))
	for range 5000 {
		b := make([]byte, rnd.Intn(120))
		rnd.Read(b)
		for i := range min(len(b), 8) {
			if i%4 < 3 && rnd.Intn(9) > 0 {
				b[i] = 0
			}
		}
		readLikeModel(t, string(b))
		if rnd.Intn(2) == 0 {
			r := rasterOf(1+rnd.Intn(64), 1+rnd.Intn(64))
			manifest := manifestModel(r)
			readLikeModel(t, manifest)
			readLikeModel(t, manifest[rnd.Intn(len(manifest)):])
			readLikeModel(t, manifest+string(b))
			readLikeModel(t, turned(manifest, rnd.Intn(8*len(manifest))))
		}
	}
}
