package chunk_test

import (
	"strings"
	"testing"
	"unsafe"

	"vitrine/api"
	"vitrine/chunk"
)

// P7.1: the examples of the document, and one that is worked out by hand.
func TestSplitExamples(t *testing.T) {
	wantNoSplit(t, "the empty string", "", api.ErrSign)
	wantSplit(t, "the signature alone", sign, nil, api.OK)
	wantSplit(t, "an end", sign+"\x00\x00\x00\x00IEND\xae\x42\x60\x82", []api.Chunk{{Type: "IEND"}}, api.OK)
}

// P7.1: chunks of all kinds.
func TestSplit(t *testing.T) {
	for _, list := range lists() {
		wantSplit(t, "a file", fileOf(list), list, api.OK)
	}
}

// P7.1: a signature that is cut off or changed, ahead of nothing and of chunks, right and wrong ones.
func TestSignature(t *testing.T) {
	for _, rest := range []string{"", coded("IEND", ""), "\x00", coded("IEN1", ""), "\x00\x00\x00\x00IEND\x00\x00\x00\x00"} {
		for n := range len(sign) {
			wantNoSplit(t, "cut off", sign[:n], api.ErrSign)
			wantNoSplit(t, "a byte is missing", sign[:n]+sign[n+1:]+rest, api.ErrSign)
			for b := range 256 {
				if byte(b) != sign[n] {
					wantNoSplit(t, "changed", changed(sign, n, byte(b))+rest, api.ErrSign)
				}
			}
		}
		wantNoSplit(t, "not at the beginning", "\x00"+sign+rest, api.ErrSign)
		wantNoSplit(t, "no signature", rest, api.ErrSign)
	}
	wantNoSplit(t, "twice", sign+sign, api.ErrChunk)
}

// P7.1: 0 to 7 bytes where a chunk should begin, be they those of a chunk or not; the first chunk, and one behind another.
func TestFewBytes(t *testing.T) {
	for _, list := range lists() {
		file := fileOf(list)
		wantSplit(t, "nothing more", file, list, api.OK)
		for n := 1; n < 8; n++ {
			for _, tail := range []string{"\x00\x00\x00\x00IEND", "\xff\xff\xff\xff1234", "\x00\x00\x00\x00[[[["} {
				wantNoSplit(t, "few bytes", file+tail[:n], api.ErrEnd)
			}
		}
		wantNoSplit(t, "8 bytes", file+"\x00\x00\x00\x00IEND", api.ErrEnd)
		wantNoSplit(t, "8 bytes, too long", file+"\xff\xff\xff\xffIEND", api.ErrChunk)
		wantNoSplit(t, "8 bytes, no type", file+"\x00\x00\x00\x00IEN1", api.ErrChunk)
	}
}

// P7.1: the greatest length, and greater ones.
func TestLength(t *testing.T) {
	for _, tail := range []string{"", "\x00", "\x00\x00\x00\x00", sum("IEND"), coded("IEND", "")} {
		for _, n := range []string{"\x7f\xff\xff\xff", "\x7f\xff\xff\xfe", "\x00\x01\x00\x00", "\x01\x00\x00\x00"} {
			wantNoSplit(t, "not too great", sign+n+"IEND"+tail, api.ErrEnd)
		}
		for _, n := range []string{"\x80\x00\x00\x00", "\x80\x00\x00\x01", "\xc0\x00\x00\x00", "\xff\xff\xff\xff", "\xff\xff\xff\xf8", "\xff\xff\xff\xf4"} {
			wantNoSplit(t, "too great", sign+n+"IEND"+tail, api.ErrChunk)
		}
	}
	for _, n := range []int{0, 1, 127, 128, 255, 256, 257, 32768, 65535, 65536, 1<<16 + 1<<8 + 1} {
		data := noise(n)
		wantSplit(t, "a length", sign+coded("IDAT", data)+coded("IEND", ""), []api.Chunk{{Type: "IDAT", Data: data}, {Type: "IEND"}}, api.OK)
	}
	wantNoSplit(t, "little-endian", sign+"\x01\x00\x00\x00IDATx"+sum("IDATx"), api.ErrEnd)
}

// letter tells it of a byte in another way than by its bounds.
func letter(b int) bool {
	return strings.ContainsRune("ABCDEFGHIJKLMNOPQRSTUVWXYZabcdefghijklmnopqrstuvwxyz", rune(b))
}

// P7.1: each byte at each place of a type, among them those just ahead of A and a and just behind Z and z.
func TestSplitType(t *testing.T) {
	for _, around := range []string{"IEND", "tEXt", "AZaz", "zaZA"} {
		for at := range 4 {
			for b := range 256 {
				kind := changed(around, at, byte(b))
				if letter(b) {
					wantSplit(t, "a type", sign+coded(kind, "abc"), []api.Chunk{{Type: kind, Data: "abc"}}, api.OK)
				} else {
					wantNoSplit(t, "no type", sign+coded(kind, "abc"), api.ErrChunk)
				}
			}
		}
	}
}

// P7.1: data and a checksum that are cut off anywhere, of the first chunk and of later ones.
func TestSplitCutOff(t *testing.T) {
	for _, list := range lists() {
		for i, c := range list {
			ahead, last := fileOf(list[:i]), coded(c.Type, c.Data)
			for n := 1; n < len(last); n++ {
				if n > 300 && n < len(last)-300 {
					continue // the long ones are cut off near their ends only
				}
				wantNoSplit(t, "cut off", ahead+last[:n], api.ErrEnd)
			}
		}
	}
}

// P7.1: data that is missing is not taken from the chunk behind it, whose bytes are there but are no checksum.
func TestDataMissing(t *testing.T) {
	whole := coded("IDAT", "abcdefgh")
	for n := range 8 {
		wantNoSplit(t, "data is missing", sign+whole[:8+n]+sum("IDATabcdefgh")+coded("IEND", ""), api.ErrCrc)
		wantNoSplit(t, "data is missing at the end", sign+whole[:8+n]+sum("IDATabcdefgh"), api.ErrEnd)
	}
}

// P7.1: a checksum that is changed in each of its bytes to each other one, whose bytes stand in another order, or that is that of something else.
func TestSum(t *testing.T) {
	for _, list := range lists() {
		for i := range list {
			ahead, behind := fileOf(list[:i+1]), fileOf(list[i+1:])[8:]
			for at := len(ahead) - 4; at < len(ahead); at++ {
				for bit := range 8 {
					wantNoSplit(t, "a wrong sum", changed(ahead, at, ahead[at]^1<<bit)+behind, api.ErrCrc)
				}
			}
		}
	}
	short := sign + coded("IDAT", "x")
	for at := len(short) - 4; at < len(short); at++ {
		for b := range 256 {
			if byte(b) != short[at] {
				wantNoSplit(t, "a wrong sum", changed(short, at, byte(b)), api.ErrCrc)
			}
		}
	}
	const end = sign + "\x00\x00\x00\x00IEND"
	for _, other := range []string{"\x82\x60\x42\xae", "\x42\xae\x82\x60", "\x60\x82\xae\x42", "\x51\xbd\x9f\x7d", "\x00\x00\x00\x00", "\xff\xff\xff\xff"} {
		wantNoSplit(t, "another sum", end+other, api.ErrCrc)
	}
	for _, other := range []string{"x", "IDAT", "\x00\x00\x00\x01IDATx", "IDATx\x00", "xIDAT"} {
		wantNoSplit(t, "the sum of something else", sign+"\x00\x00\x00\x01IDATx"+sum(other), api.ErrCrc)
	}
}

// R2: what Split returns is new, and whatever is done with it makes no difference to a later call.
func TestSplitIsNew(t *testing.T) {
	file := fileOf(lists()[4])
	from := uintptr(unsafe.Pointer(unsafe.StringData(file)))
	for range 3 {
		list, _ := chunk.Split(file)
		for _, c := range list {
			for _, s := range []string{c.Type, c.Data} {
				if at := uintptr(unsafe.Pointer(unsafe.StringData(s))); s != "" && at >= from && at < from+uintptr(len(file)) {
					t.Errorf("%q is a part of the file", s)
				}
			}
		}
		wantSplit(t, "a later call", file, lists()[4], api.OK)
		clear(list)
		list = append(list[:0], api.Chunk{Type: "none", Data: "none"})
		wantSplit(t, "a later call", file, lists()[4], api.OK)
	}
}
