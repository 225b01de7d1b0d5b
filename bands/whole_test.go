package bands_test

import (
	"slices"
	"strings"
	"sync"
	"testing"
	"unsafe"

	"vitrine/api"
	"vitrine/bands"
)

// samples are rasters at the edges.
func samples() []api.Raster {
	var list []api.Raster
	for _, h := range heights() {
		list = append(list, rasterOf(1, h), rasterOf(4, h))
	}
	return append(list, rasterOf(64, 64), rasterOf(1024, 4), rasterOf(3, 17), api.Raster{W: 2, H: 40, Pix: strings.Repeat("s", 640)})
}

// manifestOf is the manifest that the package returns.
func manifestOf(t *testing.T, r api.Raster) string {
	t.Helper()
	manifest, e := bands.Manifest(r)
	if e != api.OK {
		t.Fatalf("Manifest(%s) is %d", short(r), e)
	}
	return manifest
}

// P15.4: Join of what Manifest and Cut return is the raster, and its hashes are what Read returns.
func TestBack(t *testing.T) {
	list := samples()
	for h := 1; h <= 1024; h++ {
		list = append(list, rasterOf(1, h))
	}
	for w := 2; w <= 1024; w++ {
		list = append(list, rasterOf(w, min(4096/w, 9+w%9)))
	}
	for _, r := range list {
		manifest := manifestOf(t, r)
		parts, _ := bands.Cut(r)
		wantJoin(t, manifest, parts, r, api.OK)
		var sums []string
		for _, part := range parts {
			sums = append(sums, hash(part))
		}
		wantRead(t, manifest, r.W, r.H, sums, api.OK)
	}
}

// P15.4: rasters that differ in one byte, at each place and of each value, have unlike manifests.
func TestEachByteCounts(t *testing.T) {
	for _, r := range []api.Raster{rasterOf(1, 1), rasterOf(2, 9), rasterOf(1, 17), rasterOf(64, 1), rasterOf(1, 1024)} {
		seen := map[string]int{manifestOf(t, r): -1}
		for at := range len(r.Pix) {
			other := r
			other.Pix = changed(r.Pix, at, r.Pix[at]^byte(1<<(at%8)))
			m := manifestOf(t, other)
			if before, ok := seen[m]; ok {
				t.Errorf("%d by %d: bytes %d and %d make no difference", r.W, r.H, before, at)
			}
			seen[m] = at
		}
	}
	seen := map[string]int{}
	for b := range 256 {
		m := manifestOf(t, api.Raster{W: 1, H: 1, Pix: "abcdefg" + string([]byte{byte(b)})})
		if before, ok := seen[m]; ok {
			t.Errorf("the values %d and %d make no difference", before, b)
		}
		seen[m] = b
	}
}

// P15.4: the same bytes with other sides, rows and bands in another order, and rasters of which one goes on where the other ends.
func TestUnlike(t *testing.T) {
	var list []api.Raster
	for _, pix := range []string{strings.Repeat("s", 4096*8), noise(5, 4096*8)} {
		for w := 1; w <= 64; w++ {
			for h := 1; h <= 64; h++ {
				list = append(list, api.Raster{W: w, H: h, Pix: pix[:8*w*h]})
			}
		}
		for _, sides := range [][2]int{{1, 1024}, {1024, 1}, {2, 512}, {512, 2}, {128, 8}, {8, 128}, {256, 4}, {4, 256}, {4, 1024}, {1024, 4}, {512, 8}, {8, 512}} {
			list = append(list, api.Raster{W: sides[0], H: sides[1], Pix: pix[:8*sides[0]*sides[1]]})
		}
	}
	for _, word := range []string{"abcdefghijklmnop", "ijklmnopabcdefgh", "bacdefghijklmnop", "abcdefghijklmnpo", "abcdefgihjklmnop", "abcdefgh", "ijklmnop", "abcdefghi", "abcdefghabcdefgh", "abcdefghabcdefghabcdefgh", "aaaaaaaaa", "aaaaaaaa", "aaaaaaaaaaaaaaaa", "aaaaaaaab", "baaaaaaaa"} {
		list = append(list, column(word))
	}
	seen := map[string]api.Raster{}
	for _, r := range list {
		m := manifestOf(t, r)
		if before, ok := seen[m]; ok && before != r {
			t.Errorf("the same manifest of %s and of %s", short(before), short(r))
		}
		seen[m] = r
	}
}

// P15.4: the same manifest is that of an equal raster, also if the bytes are another string.
func TestSameManifest(t *testing.T) {
	for _, r := range samples() {
		again := api.Raster{W: r.W, H: r.H, Pix: strings.Clone(r.Pix)}
		manifest := manifestOf(t, r)
		if manifestOf(t, again) != manifest {
			t.Errorf("%s has two manifests", short(r))
		}
		parts, _ := bands.Cut(again)
		joined, _ := bands.Join(strings.Clone(manifest), parts...)
		if manifestOf(t, joined) != manifest {
			t.Errorf("%s has another manifest when it is joined", short(r))
		}
	}
}

// P15.1: a manifest of a raster is one for Read, and no band is empty.
func TestBandsOfRasters(t *testing.T) {
	for _, r := range samples() {
		list, _ := bands.Cut(r)
		for i, band := range list {
			if want := 8 * r.W * min(8, r.H-8*i); len(band) != want {
				t.Errorf("%d by %d: band %d has %d bytes, not %d", r.W, r.H, i, len(band), want)
			}
		}
		if len(list) != (r.H+7)/8 {
			t.Errorf("%d by %d: %d bands", r.W, r.H, len(list))
		}
	}
}

// given is a copy of strings in one memory, with bytes ahead of each and behind the last.
func given(list ...string) (memory []byte, copies []string) {
	memory = []byte("ahead of all")
	var at []int
	for _, s := range list {
		at = append(at, len(memory))
		memory = append(memory, s...)
		memory = append(memory, "kept"...)
	}
	for i, s := range list {
		copies = append(copies, unsafe.String(&memory[at[i]], len(s)))
	}
	return memory, copies
}

// R2: neither the strings that are passed in are changed, nor the memory around them; and what is returned does not hang on it.
func TestStringsAreNotChanged(t *testing.T) {
	for _, r := range samples() {
		manifest, list := manifestModel(r), cutModel(r)
		memory, copies := given(append([]string{manifest, r.Pix}, list...)...)
		before := slices.Clone(memory)
		name := bands.Name(copies[0])
		mine := api.Raster{W: r.W, H: r.H, Pix: copies[1]}
		parts, _ := bands.Cut(mine)
		text, _ := bands.Manifest(mine)
		w, h, sums, _ := bands.Read(copies[0])
		joined, e := bands.Join(copies[0], copies[2:]...)
		if !slices.Equal(memory, before) {
			t.Fatalf("%d by %d: the memory is changed", r.W, r.H)
		}
		clear(memory)
		if !slices.Equal(parts, list) || text != manifest || joined != r || e != api.OK || name != api.ErrName {
			t.Errorf("%d by %d: what is returned hangs on what was passed in", r.W, r.H)
		}
		wantRead(t, manifest, w, h, sums, api.OK)
	}
}

// R2: a list of bands is not changed, nor is the memory behind its end, whether or not the bands are right; nor is it kept.
func TestListsAreNotChanged(t *testing.T) {
	for _, r := range samples() {
		manifest, list := manifestModel(r), cutModel(r)
		wrong := slices.Clone(list)
		wrong[len(wrong)-1] += "x"
		for _, l := range [][]string{list, wrong, list[:len(list)-1]} {
			want, wantE := joinModel(manifest, l)
			memory := append(slices.Clone(l), "kept", "kept too")
			before := slices.Clone(memory)
			got, e := bands.Join(manifest, memory[:len(l)]...)
			if !slices.Equal(memory, before) {
				t.Errorf("%d by %d: the list is changed", r.W, r.H)
			}
			clear(memory)
			if got != want || e != wantE {
				t.Errorf("%d by %d: %s, %d", r.W, r.H, short(got), e)
			}
		}
	}
}

// R2: what is done with a list that was returned does not influence other results.
func TestResultsAreApart(t *testing.T) {
	for _, r := range samples() {
		manifest := manifestModel(r)
		first, _ := bands.Cut(r)
		_, _, sums, _ := bands.Read(manifest)
		second, _ := bands.Cut(r)
		_, _, sumsAgain, _ := bands.Read(manifest)
		for _, list := range [][]string{first, sums} {
			all := list[:cap(list)]
			for i := range all {
				all[i] = "other"
			}
		}
		if !slices.Equal(second, cutModel(r)) {
			t.Errorf("%d by %d: bands hang on others", r.W, r.H)
		}
		wantRead(t, manifest, r.W, r.H, sumsAgain, api.OK)
		cutLikeModel(t, r)
		readLikeModel(t, manifest)
	}
}

// R2: what is returned is new memory, and no part of what is passed in.
func TestResultsAreNew(t *testing.T) {
	inside := func(s, text string) bool {
		at, from := uintptr(unsafe.Pointer(unsafe.StringData(s))), uintptr(unsafe.Pointer(unsafe.StringData(text)))
		return at >= from && at < from+uintptr(len(text))
	}
	for _, r := range samples() {
		manifest := manifestModel(r)
		list, _ := bands.Cut(r)
		for i, band := range list {
			if inside(band, r.Pix) {
				t.Errorf("%d by %d: band %d is a part of the raster", r.W, r.H, i)
			}
		}
		_, _, sums, _ := bands.Read(manifest)
		for i, sum := range sums {
			if inside(sum, manifest) {
				t.Errorf("%d by %d: hash %d is a part of the manifest", r.W, r.H, i)
			}
		}
		joined, _ := bands.Join(manifest, list...)
		for i, band := range list {
			if inside(joined.Pix, band) || inside(band, joined.Pix) {
				t.Errorf("%d by %d: band %d is a part of the raster that is joined", r.W, r.H, i)
			}
		}
	}
}

// R3: a call does not depend on those before it.
func TestCallsAreApart(t *testing.T) {
	for range 3 {
		for _, r := range []api.Raster{rasterOf(2, 9), rasterOf(1, 1), rasterOf(4, 1024), rasterOf(9, 2)} {
			manifest, list := manifestModel(r), cutModel(r)
			cutLikeModel(t, r)
			wantRefused(t, api.Raster{W: r.W, H: r.H}, api.ErrHead)
			wantJoin(t, manifest, list, r, api.OK)
			wantNoBands(t, manifest, list[1:]...)
			wantNoManifest(t, manifest[1:])
			readLikeModel(t, manifest)
			wantName(t, "a", api.OK)
			wantName(t, "", api.ErrName)
		}
	}
}

// R3: nor on those at the same time.
func TestCallsAtOnce(t *testing.T) {
	var group sync.WaitGroup
	for seed := range 8 {
		group.Go(func() {
			for n := range 40 {
				r := rasterOf(1+seed, 1+n)
				cutLikeModel(t, r)
				wantJoin(t, manifestModel(r), cutModel(r), r, api.OK)
				wantNoManifest(t, manifestModel(r)[1:])
				wantName(t, strings.Repeat("n", 1+n%32), api.OK)
			}
		})
	}
	group.Wait()
}
