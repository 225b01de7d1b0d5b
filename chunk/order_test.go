package chunk_test

import (
	"bytes"
	"image"
	"image/color"
	library "image/png"
	"math/rand"
	"slices"
	"strings"
	"testing"

	"vitrine/api"
	"vitrine/chunk"
)

// part is some bytes and the error that they are, if one.
type part struct {
	bytes string
	e     api.Errno
}

// bodies are what can follow a signature or a right chunk: of each kind, and those to which several errors apply, with the first one of these.
func bodies() []part {
	right, wrong := sum("IDATabc"), "\x00\x00\x00\x00"
	return []part{
		{coded("IDAT", "abc"), api.OK},
		{coded("IEND", ""), api.OK},
		{"\x00\x00\x00\x03IDATabc" + wrong, api.ErrCrc},
		{"\x00\x00\x00\x03IDATabd" + right, api.ErrCrc},
		{"\x00\x00\x00\x02IDATabc" + right, api.ErrCrc}, // what follows is out of step, but it is not reached
		{coded("IDA1", "abc"), api.ErrChunk},
		{"\x80\x00\x00\x00IDAT", api.ErrChunk},
		{"\x00\x00\x00\x03IDA1abc" + wrong, api.ErrChunk},          // a sum is wrong too
		{"\xff\xff\xff\xffIDA1", api.ErrChunk},                     // both the length and the type
		{"\x7f\xff\xff\xffIDA1", api.ErrChunk},                     // the data are missing too
		{"\x80\x00\x00\x00IDATabc" + wrong, api.ErrChunk},          // the data are missing too
		{"\x80\x00\x00\x03IDATabc" + right, api.ErrChunk},          // it would be right without the highest bit
		{"\x80\x00\x00\x03\x00\x00\x00\x00" + right, api.ErrChunk}, // no type at all
	}
}

// ends are parts that say ErrEnd only where the file ends behind them.
func ends() []part {
	right := sum("IDATabc")
	return []part{
		{"", api.OK},
		{"\x00", api.ErrEnd},
		{"\xff\xff\xff\xff\x00\x00\x00", api.ErrEnd}, // a wrong length, and no type
		{"\x00\x00\x00\x03IDA", api.ErrEnd},
		{"\x00\x00\x00\x03ID1", api.ErrEnd}, // no type could be
		{"\x00\x00\x00\x03IDAT", api.ErrEnd},
		{"\x00\x00\x00\x03IDATab", api.ErrEnd},
		{"\x00\x00\x00\x03IDATabc", api.ErrEnd},
		{"\x00\x00\x00\x03IDATabc" + right[:3], api.ErrEnd},
		{"\x00\x00\x00\x03IDATabc\x00\x00\x00", api.ErrEnd}, // a wrong sum, as far as it is there
		{"\x7f\xff\xff\xffIDATabc" + right, api.ErrEnd},
		{"\x00\x00\x00\x08IDATabc" + right, api.ErrEnd}, // as many bytes as data, but no sum
		{"\x00\x00\x00\x07IDATabc" + right, api.ErrEnd},
		{"\x00\x00\x00\x04IDATabc" + right, api.ErrEnd},
	}
}

// P7.1: of several errors that apply, the first one: the signature ahead of all chunks, and chunk after chunk.
func TestOrder(t *testing.T) {
	for _, start := range []part{{sign, api.OK}, {changed(sign, 0, 'x'), api.ErrSign}, {changed(sign, 7, 'x'), api.ErrSign}, {"", api.ErrSign}} {
		for _, a := range bodies() {
			for _, b := range bodies() {
				for _, end := range ends() {
					file, want := "", api.OK
					for _, p := range []part{start, a, b, end} {
						file += p.bytes
						if want == api.OK {
							want = p.e
						}
					}
					if got, e := splitModel(file); e != want {
						t.Fatalf("the model says %v, not %v: %q", e, want, file)
					} else {
						wantSplit(t, "an order", file, got, want)
					}
				}
			}
		}
	}
}

// P7.3: Split of the result of Join, and Join of the result of Split.
func TestThereAndBack(t *testing.T) {
	for _, list := range lists() {
		file, e := chunk.Join(list...)
		if e != api.OK {
			t.Errorf("%.80q: %v", list, e)
		}
		wantSplit(t, "what Join wrote", file, list, api.OK)
		split, e := chunk.Split(fileOf(list))
		if e != api.OK {
			t.Errorf("%.80q: %v", list, e)
		}
		wantJoin(t, "what Split read", split, fileOf(list), api.OK)
	}
}

// P7.1, P7.2, P7.3: many chunks, and data so long that no byte of the length is zero.
func TestLarge(t *testing.T) {
	many := slices.Repeat(lists()[3], 5000)
	file := sign + strings.Repeat(fileOf(lists()[3])[8:], 5000)
	wantJoin(t, "many", many, file, api.OK)
	wantSplit(t, "many", file, many, api.OK)
	long := []api.Chunk{{Type: "IDAT", Data: noise(0x01020304)}, {Type: "IEND"}}
	file = sign + "\x01\x02\x03\x04" + fileOf(long)[12:]
	wantJoin(t, "long", long, file, api.OK)
	wantSplit(t, "long", file, long, api.OK)
}

// P7.3: each byte of some chunks changed to each other one.
func TestEachByte(t *testing.T) {
	for _, list := range lists() {
		file := fileOf(list)
		if len(file) > 300 {
			continue
		}
		for at := len(sign); at < len(file); at++ {
			for b := range 256 {
				if byte(b) == file[at] {
					continue
				}
				if e := wantModel(t, changed(file, at, byte(b))); e == api.OK {
					t.Errorf("byte %d of %.80q changed to %d: not found", at, file, b)
				}
			}
		}
	}
}

// P7.3: a changed byte of a type, of data and of a sum, where each of them says which error it is.
func TestWhichByte(t *testing.T) {
	ahead, behind := sign+coded("IHDR", "0123456789abc"), coded("IEND", "")
	file := ahead + coded("tEXt", "data") + behind
	for i := range 12 {
		at := len(ahead) + 4 + i
		for b := range 256 {
			want := api.ErrCrc
			switch {
			case byte(b) == file[at]:
				continue
			case i < 4 && !letter(b):
				want = api.ErrChunk
			}
			wantNoSplit(t, "a changed byte", changed(file, at, byte(b)), want)
		}
	}
}

// damaged is text with some bytes changed, taken out or put in, or cut off.
func damaged(rnd *rand.Rand, text string) string {
	for range rnd.Intn(3) {
		at := rnd.Intn(len(text) + 1)
		other := string([]byte{byte(rnd.Intn(256))})
		switch rnd.Intn(5) {
		case 0:
			text = text[:at]
		case 1:
			text = text[:at] + other + text[at:]
		case 2:
			text = text[:at] + text[min(at+1, len(text)):]
		default:
			text = text[:at] + other + text[min(at+1, len(text)):]
		}
	}
	return text
}

// randomChunk is a chunk of a random type, which is now and then none.
func randomChunk(rnd *rand.Rand) api.Chunk {
	kind := make([]byte, 4)
	for i := range kind {
		kind[i] = byte("ABYZabyz"[rnd.Intn(8)])
		if rnd.Intn(60) == 0 {
			kind[i] = "@[`{\x00\xff"[rnd.Intn(6)]
		}
	}
	data := noise(40)[rnd.Intn(20):]
	return api.Chunk{Type: string(kind), Data: data[:rnd.Intn(len(data))]}
}

// P7.1, P7.2, P7.3: random files, whole and damaged; all errors occur.
func TestRandom(t *testing.T) {
	rnd := rand.New(rand.NewSource(71))
	seen := map[api.Errno]int{}
	for range 30000 {
		list := make([]api.Chunk, rnd.Intn(5))
		right := true
		for i := range list {
			list[i] = randomChunk(rnd)
			right = right && letters.MatchString(list[i].Type)
		}
		file := fileOf(list)
		if right {
			wantJoin(t, "random", list, file, api.OK)
			wantSplit(t, "random", file, list, api.OK)
		} else {
			wantJoin(t, "random", list, "", api.ErrChunk)
			wantNoSplit(t, "random", file, api.ErrChunk)
		}
		seen[wantModel(t, damaged(rnd, file))]++
	}
	for _, e := range []api.Errno{api.OK, api.ErrSign, api.ErrEnd, api.ErrChunk, api.ErrCrc} {
		if seen[e] == 0 {
			t.Errorf("never: %v", e)
		}
	}
}

// libraryFile is an image as the library writes it.
func libraryFile(t *testing.T) string {
	t.Helper()
	m := image.NewPaletted(image.Rect(0, 0, 300, 200), color.Palette{color.Black, color.White, color.Transparent})
	for i, b := range []byte(noise(len(m.Pix))) {
		m.Pix[i] = b % 3
	}
	var b bytes.Buffer
	if err := library.Encode(&b, m); err != nil {
		t.Fatal(err)
	}
	return b.String()
}

// P7.1, P7.2: a PNG of the library is split and joined, and the library reads it with its IDATs divided and a chunk added.
func TestLibrary(t *testing.T) {
	file := libraryFile(t)
	list, e := chunk.Split(file)
	if e != api.OK {
		t.Fatal(e)
	}
	wantJoin(t, "the library's", list, file, api.OK)
	var kinds, more []api.Chunk
	for _, c := range list {
		kinds = append(kinds, api.Chunk{Type: c.Type})
		if c.Type == "IDAT" {
			half := len(c.Data) / 2
			more = append(more, api.Chunk{Type: "IDAT", Data: c.Data[:half]})
			c.Data = c.Data[half:]
		}
		more = append(more, c)
	}
	kinds = slices.Compact(kinds)
	if want := []api.Chunk{{Type: "IHDR"}, {Type: "PLTE"}, {Type: "tRNS"}, {Type: "IDAT"}, {Type: "IEND"}}; !slices.Equal(kinds, want) {
		t.Errorf("chunks %q", kinds)
	}
	more = slices.Insert(more, 1, api.Chunk{Type: "tEXt", Data: "Title\x00vitrine"})
	again, e := chunk.Join(more...)
	if e != api.OK {
		t.Fatal(e)
	}
	if _, err := library.Decode(strings.NewReader(again)); err != nil {
		t.Error(err)
	}
}

// R3: a call does not depend on those before it.
func TestCallsAreApart(t *testing.T) {
	for range 2 {
		for _, list := range lists() {
			wantSplit(t, "a file", fileOf(list), list, api.OK)
			wantNoSplit(t, "cut off", fileOf(list)+"\x00", api.ErrEnd)
			wantJoin(t, "a list", list, fileOf(list), api.OK)
			wantJoin(t, "no type", append(list, api.Chunk{}), "", api.ErrChunk)
		}
	}
}
