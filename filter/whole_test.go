package filter_test

import (
	"bytes"
	"compress/zlib"
	"image"
	library "image/png"
	"io"
	"math/rand"
	"strings"
	"testing"
	"unsafe"

	"vitrine/api"
	"vitrine/chunk"
	"vitrine/filter"
	"vitrine/head"
)

// randomRow is n bytes that are close to each other, equal for the most part, or anything.
func randomRow(rnd *rand.Rand, n int) string {
	b := make([]byte, n)
	spread := 1 << rnd.Intn(9)
	at := rnd.Intn(256)
	for i := range b {
		if rnd.Intn(8) > 0 {
			at += rnd.Intn(spread) - spread/2
		}
		b[i] = byte(at)
	}
	return string(b)
}

// P9.1, P9.2, P9.3: random rows; each type is picked now and then.
func TestRandom(t *testing.T) {
	rnd := rand.New(rand.NewSource(92))
	seen := [5]int{}
	for range 20000 {
		bpp, n := 1+rnd.Intn(8), rnd.Intn(1<<rnd.Intn(8))
		line, above := randomRow(rnd, n), randomRow(rnd, n)
		if rnd.Intn(8) == 0 {
			above = ""
		}
		wantModel(t, bpp, line, above)
		seen[pickModel(bpp, line, above)]++
	}
	for kind, n := range seen {
		if n < 100 {
			t.Errorf("type %d is picked only %d times", kind, n)
		}
	}
}

// P9.1, P9.3: a row as long as one can be, and one that is much longer.
func TestLarge(t *testing.T) {
	for _, n := range []int{8192, 8193, 300000} {
		line, above := noise(1, n), noise(2, n)
		for _, bpp := range []int{1, 3, 8} {
			wantModel(t, bpp, line, above)
			wantModel(t, bpp, line, "")
		}
	}
}

// picture is an image, the bytes of its pixels, how many a pixel has, and the header that the library writes for it.
type picture struct {
	image image.Image
	pix   []byte
	bpp   int
	head  api.Head
}

// pictures are images of each kind whose pixels the library keeps as a PNG does, filled by of.
func pictures(of func(pix []byte)) []picture {
	box := image.Rect(0, 0, 61, 59)
	grey, grey16, rgba, rgba16 := image.NewGray(box), image.NewGray16(box), image.NewNRGBA(box), image.NewNRGBA64(box)
	list := []picture{
		{grey, grey.Pix, 1, api.Head{Depth: 8, Colour: api.Grey}},
		{grey16, grey16.Pix, 2, api.Head{Depth: 16, Colour: api.Grey}},
		{rgba, rgba.Pix, 4, api.Head{Depth: 8, Colour: api.RGBA}},
		{rgba16, rgba16.Pix, 8, api.Head{Depth: 16, Colour: api.RGBA}},
	}
	for i, p := range list {
		list[i].head.W, list[i].head.H = 61, 59
		of(p.pix)
		p.pix[p.bpp-1] = 7 // not opaque
	}
	return list
}

// fills are functions that fill pixels, with smooth contents and with others.
func fills() []func(pix []byte) {
	return []func(pix []byte){
		func(pix []byte) { copy(pix, noise(3, len(pix))) },
		func(pix []byte) { copy(pix, randomRow(rand.New(rand.NewSource(93)), len(pix))) },
		func(pix []byte) {
			for i := range pix {
				pix[i] = byte(i/240 + i%240/8 + i*i/5000)
			}
		},
		func(pix []byte) {},
	}
}

// inflated is what the data of a PNG of the library hold.
func inflated(t *testing.T, p picture) string {
	t.Helper()
	var file bytes.Buffer
	if err := library.Encode(&file, p.image); err != nil {
		t.Fatal(err)
	}
	chunks, _ := chunk.Split(file.String())
	shape, data, e := head.Read(chunks...)
	if e != api.OK || shape.Head != p.head {
		t.Fatalf("%+v, not %+v: %v", shape.Head, p.head, e)
	}
	r, err := zlib.NewReader(strings.NewReader(data))
	if err != nil {
		t.Fatal(err)
	}
	raw, err := io.ReadAll(r)
	if err != nil {
		t.Fatal(err)
	}
	return string(raw)
}

// P9.1: rows that the library filtered.
func TestLibraryFilters(t *testing.T) {
	seen := [5]int{}
	for _, fill := range fills() {
		for _, p := range pictures(fill) {
			raw, size, above := inflated(t, p), p.bpp*61, ""
			for y := range 59 {
				kind, line := int(raw[y*(size+1)]), raw[y*(size+1)+1:(y+1)*(size+1)]
				row := string(p.pix[y*size : (y+1)*size])
				wantPair(t, p.bpp, kind, row, above, line)
				above = row
				seen[kind]++
			}
		}
	}
	for kind, n := range seen {
		if n == 0 {
			t.Errorf("type %d does not occur", kind)
		}
	}
}

// P9.1, P9.2: rows that the library reads: of one type each, of all types in turn, and of those that are picked.
func TestLibraryReads(t *testing.T) {
	for _, fill := range fills() {
		for _, p := range pictures(fill) {
			for way := range 7 {
				size, above, raw := p.bpp*61, "", ""
				for y := range 59 {
					row, kind := string(p.pix[y*size:(y+1)*size]), way
					switch way {
					case 5:
						kind = y % 5
					case 6:
						kind, _ = filter.Pick(p.bpp, row, above)
					}
					line, e := filter.Do(p.bpp, kind, row, above)
					if e != api.OK {
						t.Fatal(e)
					}
					raw, above = raw+text(kind)+line, row
				}
				wantPicture(t, p, raw)
			}
		}
	}
}

// wantPicture wants that the library reads filtered rows as the pixels of a picture.
func wantPicture(t *testing.T, p picture, raw string) {
	t.Helper()
	var data bytes.Buffer
	w := zlib.NewWriter(&data)
	io.WriteString(w, raw)
	w.Close()
	file, _ := chunk.Join(head.Lay(p.head), api.Chunk{Type: "IDAT", Data: data.String()}, api.Chunk{Type: "IEND"})
	m, err := library.Decode(strings.NewReader(file))
	if err != nil {
		t.Fatal(err)
	}
	var pix []byte
	switch m := m.(type) {
	case *image.Gray:
		pix = m.Pix
	case *image.Gray16:
		pix = m.Pix
	case *image.NRGBA:
		pix = m.Pix
	case *image.NRGBA64:
		pix = m.Pix
	}
	if !bytes.Equal(pix, p.pix) {
		t.Errorf("other pixels: %+v", p.head)
	}
}

// R2: what Do and Undo return is new, also where it is the row that they are given.
func TestResultsAreNew(t *testing.T) {
	line, above := noise(1, 20), strings.Repeat("\x00", 20)
	inside := func(s, text string) bool {
		at, from := uintptr(unsafe.Pointer(unsafe.StringData(s))), uintptr(unsafe.Pointer(unsafe.StringData(text)))
		return at >= from && at < from+uintptr(len(text))
	}
	for kind := range 5 {
		done, _ := filter.Do(1, kind, line, above)
		undone, _ := filter.Undo(1, kind, line, above)
		for _, s := range []string{done, undone} {
			if inside(s, line) || inside(s, above) {
				t.Errorf("type %d: the result is a part of an argument", kind)
			}
		}
	}
}

// R3: a call does not depend on those before it.
func TestCallsAreApart(t *testing.T) {
	for range 3 {
		for bpp := 1; bpp <= 8; bpp++ {
			wantModel(t, bpp, noise(bpp, 20), noise(bpp+1, 20))
			wantError(t, bpp, 5, noise(bpp, 20), "", api.ErrFilter)
			wantModel(t, bpp, noise(bpp, 20), "")
			wantError(t, bpp, 5, noise(bpp, 20), "x", api.ErrArg)
			wantNoPick(t, 8+bpp, noise(bpp, 20), "")
		}
	}
}
