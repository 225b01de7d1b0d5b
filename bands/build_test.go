package bands_test

import (
	"crypto/sha256"
	"encoding/binary"
	"fmt"
	"math/rand"
	"slices"
	"strings"
	"testing"

	"vitrine/api"
	"vitrine/bands"
)

// noise is n bytes without a rule.
func noise(seed, n int) string {
	b := make([]byte, n)
	rand.New(rand.NewSource(int64(seed))).Read(b)
	return string(b)
}

// rasterOf is a raster of these sides, whose bytes have no rule.
func rasterOf(w, h int) api.Raster { return api.Raster{W: w, H: h, Pix: noise(5000*w+h, 8*w*h)} }

// column is a raster of one pixel a row, and in each row one of the letters of a word, 8 times.
func column(word string) api.Raster {
	pix := ""
	for i := range len(word) {
		pix += strings.Repeat(word[i:i+1], 8)
	}
	return api.Raster{W: 1, H: len(word), Pix: pix}
}

// hash is what the library says of bytes.
func hash(s string) string {
	sum := sha256.Sum256([]byte(s))
	return string(sum[:])
}

// side is the 4 bytes of a width or a height.
func side(n uint32) string { return string(binary.BigEndian.AppendUint32(nil, n)) }

// hashes are n bytes behind a manifest's sides.
func hashes(n int) string { return strings.Repeat("\x00h", n/2+1)[:n] }

// changed is a text with another byte at a place.
func changed(s string, at int, b byte) string { return s[:at] + string([]byte{b}) + s[at+1:] }

// turned is a text in which one bit is another one.
func turned(s string, bit int) string { return changed(s, bit/8, s[bit/8]^1<<(bit%8)) }

// checkModel is what pixel.Check says of a raster, in the words of its chapter.
func checkModel(r api.Raster) api.Errno {
	const most = 2147483647
	switch {
	case r.W < 1, r.H < 1, r.W > most, r.H > most:
		return api.ErrHead
	case r.W > 1024, r.H > 1024, r.W*r.H > 4096:
		return api.ErrBig
	case len(r.Pix) != 8*r.W*r.H:
		return api.ErrHead
	}
	return api.OK
}

// cutModel is the bands of a raster that is right, in the chapter's words: row by row.
func cutModel(r api.Raster) []string {
	var list []string
	for row := range r.H {
		if row%8 == 0 {
			list = append(list, "")
		}
		list[len(list)-1] += r.Pix[8*r.W*row : 8*r.W*(row+1)]
	}
	return list
}

// manifestModel is the manifest of a raster that is right, in the chapter's words.
func manifestModel(r api.Raster) string {
	manifest := side(uint32(r.W)) + side(uint32(r.H))
	for _, band := range cutModel(r) {
		manifest += hash(band)
	}
	return manifest
}

// readModel is P15.2 in the chapter's words.
func readModel(manifest string) (int, int, []string, api.Errno) {
	if len(manifest) < 8 {
		return 0, 0, nil, api.ErrManifest
	}
	w, h := int(binary.BigEndian.Uint32([]byte(manifest))), int(binary.BigEndian.Uint32([]byte(manifest[4:])))
	if w < 1 || h < 1 || w > 1024 || h > 1024 || w*h > 4096 {
		return 0, 0, nil, api.ErrManifest
	}
	var list []string
	rest := manifest[8:]
	for range cutModel(api.Raster{W: w, H: h, Pix: strings.Repeat("x", 8*w*h)}) {
		if len(rest) < 32 {
			return 0, 0, nil, api.ErrManifest
		}
		list, rest = append(list, rest[:32]), rest[32:]
	}
	if rest != "" {
		return 0, 0, nil, api.ErrManifest
	}
	return w, h, list, api.OK
}

// joinModel is P15.3 seen from its other end: the bands are those of a raster that has this manifest, or they are wrong.
func joinModel(manifest string, list []string) (api.Raster, api.Errno) {
	w, h, _, e := readModel(manifest)
	if e != api.OK {
		return api.Raster{}, e
	}
	r := api.Raster{W: w, H: h, Pix: strings.Join(list, "")}
	if checkModel(r) != api.OK || !slices.Equal(cutModel(r), list) || manifestModel(r) != manifest {
		return api.Raster{}, api.ErrBand
	}
	return r, api.OK
}

// short is the beginning of a value as text.
func short(v any) string {
	text := fmt.Sprintf("%x", v)
	switch v := v.(type) {
	case string:
		text = fmt.Sprintf("%d bytes %x", len(v), v)
	case []string:
		text = fmt.Sprintf("%d strings %x", len(v), v)
	case api.Raster:
		text = fmt.Sprintf("%d by %d, %d bytes %x", v.W, v.H, len(v.Pix), v.Pix)
	}
	if len(text) > 200 {
		return text[:200] + ".."
	}
	return text
}

// wantName holds what Name returns against what is wanted.
func wantName(t *testing.T, s string, want api.Errno) {
	t.Helper()
	if e := bands.Name(s); e != want {
		t.Errorf("Name(%.80q, %d bytes) is %d, not %d", s, len(s), e, want)
	}
}

// wantCut holds what Cut and Manifest return against the bands and the manifest that are wanted.
func wantCut(t *testing.T, r api.Raster, list []string, manifest string) {
	t.Helper()
	got, e := bands.Cut(r)
	if !slices.Equal(got, list) || e != api.OK {
		t.Errorf("Cut(%s) is %s, %d, not %s", short(r), short(got), e, short(list))
	}
	text, e := bands.Manifest(r)
	if text != manifest || e != api.OK {
		t.Errorf("Manifest(%s) is %s, %d, not %s", short(r), short(text), e, short(manifest))
	}
}

// cutLikeModel holds Cut and Manifest against the model.
func cutLikeModel(t *testing.T, r api.Raster) {
	t.Helper()
	wantCut(t, r, cutModel(r), manifestModel(r))
}

// wantRefused wants the same error of Cut and of Manifest, and nothing beside it.
func wantRefused(t *testing.T, r api.Raster, want api.Errno) {
	t.Helper()
	if list, e := bands.Cut(r); len(list) != 0 || e != want {
		t.Errorf("Cut(%s) is %s, %d, not %d", short(r), short(list), e, want)
	}
	if manifest, e := bands.Manifest(r); manifest != "" || e != want {
		t.Errorf("Manifest(%s) is %s, %d, not %d", short(r), short(manifest), e, want)
	}
}

// wantRead holds what Read returns against what is wanted.
func wantRead(t *testing.T, manifest string, w, h int, list []string, want api.Errno) {
	t.Helper()
	gotW, gotH, got, e := bands.Read(manifest)
	if gotW != w || gotH != h || !slices.Equal(got, list) || e != want {
		t.Errorf("Read(%s) is %d, %d, %s, %d, not %d, %d, %s, %d", short(manifest), gotW, gotH, short(got), e, w, h, short(list), want)
	}
}

// readLikeModel holds Read against the model.
func readLikeModel(t *testing.T, manifest string) {
	t.Helper()
	w, h, list, e := readModel(manifest)
	wantRead(t, manifest, w, h, list, e)
}

// wantNoManifest wants that Read and Join refuse a manifest, whatever the bands, and return nothing beside the error.
func wantNoManifest(t *testing.T, manifest string) {
	t.Helper()
	wantRead(t, manifest, 0, 0, nil, api.ErrManifest)
	for _, list := range [][]string{nil, {""}, {"12345678"}, {strings.Repeat("a", 64), strings.Repeat("b", 8)}} {
		wantJoin(t, manifest, list, api.Raster{}, api.ErrManifest)
	}
}

// wantJoin holds what Join returns against what is wanted.
func wantJoin(t *testing.T, manifest string, list []string, want api.Raster, wantE api.Errno) {
	t.Helper()
	got, e := bands.Join(manifest, list...)
	if got != want || e != wantE {
		t.Errorf("Join(%s, %s) is %s, %d, not %s, %d", short(manifest), short(list), short(got), e, short(want), wantE)
	}
}

// wantNoBands wants ErrBand, and nothing beside it.
func wantNoBands(t *testing.T, manifest string, list ...string) {
	t.Helper()
	wantJoin(t, manifest, list, api.Raster{}, api.ErrBand)
}

// joinLikeModel holds Join against the model.
func joinLikeModel(t *testing.T, manifest string, list []string) {
	t.Helper()
	want, e := joinModel(manifest, list)
	wantJoin(t, manifest, list, want, e)
}
