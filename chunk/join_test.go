package chunk_test

import (
	"slices"
	"strings"
	"syscall"
	"testing"
	"unsafe"

	"vitrine/api"
	"vitrine/chunk"
)

// P7.2: the example of the document, no chunks, and one whose bytes are worked out by hand.
func TestJoinExamples(t *testing.T) {
	wantJoin(t, "an end", []api.Chunk{{Type: "IEND"}}, "\x89PNG\r\n\x1a\n\x00\x00\x00\x00\x49\x45\x4e\x44\xae\x42\x60\x82", api.OK)
	wantJoin(t, "no chunks", nil, sign, api.OK)
	wantJoin(t, "no chunks", []api.Chunk{}, sign, api.OK)
	if got, e := chunk.Join(); got != sign || e != api.OK {
		t.Errorf("no chunks: %q, %v", got, e)
	}
	wantJoin(t, "data", []api.Chunk{{Type: "IDAT", Data: "x"}}, sign+"\x00\x00\x00\x01IDATx\x76\xe6\x84\xe6", api.OK)
}

// P7.2: chunks of all kinds.
func TestJoin(t *testing.T) {
	for _, list := range lists() {
		wantJoin(t, "a list", list, fileOf(list), api.OK)
	}
	for _, n := range []int{0, 1, 127, 128, 255, 256, 257, 32768, 65535, 65536, 1<<16 + 1<<8 + 1} {
		list := []api.Chunk{{Type: "IDAT", Data: noise(n)}}
		wantJoin(t, "a length", list, fileOf(list), api.OK)
	}
}

// wantNoType wants ErrChunk for a type, by itself and at each place of a list.
func wantNoType(t *testing.T, kind string) {
	t.Helper()
	bad := api.Chunk{Type: kind, Data: "abc"}
	wantJoin(t, "no type", []api.Chunk{{Type: kind}}, "", api.ErrChunk)
	right := lists()[3]
	for i := range len(right) + 1 {
		wantJoin(t, "no type", slices.Insert(slices.Clone(right), i, bad), "", api.ErrChunk)
	}
}

// P7.2: each byte at each place of a type, among them those just ahead of A and a and just behind Z and z.
func TestJoinType(t *testing.T) {
	for _, around := range []string{"IEND", "tEXt", "AZaz", "zaZA"} {
		for at := range 4 {
			for b := range 256 {
				kind := changed(around, at, byte(b))
				if !letter(b) {
					wantNoType(t, kind)
					continue
				}
				list := []api.Chunk{{Type: kind, Data: "abc"}, {Type: "IEND"}}
				wantJoin(t, "a type", list, fileOf(list), api.OK)
			}
		}
	}
}

// P7.2: types of more or fewer than four letters.
func TestJoinTypeLength(t *testing.T) {
	for n := range 20 {
		if n != 4 {
			wantNoType(t, strings.Repeat("A", n))
			wantNoType(t, strings.Repeat("z", n))
		}
	}
	for _, kind := range []string{"", "I", "IE", "IEN", "IENDS", "IEND\x00", "IEND ", " IEND", "IENDIEND", "IEN\x00", "IÄN", "ÄÄ", strings.Repeat("IEND", 64)} {
		wantNoType(t, kind)
	}
}

// P7.2: Data of one byte too many. Its memory comes from the system, which need not have it as long as nobody writes there.
func TestJoinTooLong(t *testing.T) {
	bytes, err := syscall.Mmap(-1, 0, 2147483648, syscall.PROT_READ, syscall.MAP_ANON|syscall.MAP_PRIVATE)
	if err != nil {
		t.Skip(err)
	}
	defer syscall.Munmap(bytes)
	long := api.Chunk{Type: "IDAT", Data: unsafe.String(&bytes[0], len(bytes))}
	wantTooLong := func(name string, chunks ...api.Chunk) {
		t.Helper()
		if got, e := chunk.Join(chunks...); got != "" || e != api.ErrChunk {
			t.Errorf("%s: %d bytes, %v", name, len(got), e)
		}
	}
	wantTooLong("alone", long)
	wantTooLong("behind another one", api.Chunk{Type: "IHDR"}, long, api.Chunk{Type: "IEND"})
	wantTooLong("with no type", api.Chunk{Type: "IDA1", Data: long.Data})
}

// R2: Join changes nothing of the list that it is given, nor of the memory behind its end.
func TestJoinChangesNothing(t *testing.T) {
	for _, list := range append(lists(), []api.Chunk{{Type: "IDAT", Data: "x"}, {Type: "no"}}) {
		behind := api.Chunk{Type: "kept", Data: "kept"}
		memory := append(slices.Clone(list), behind, behind)
		given := memory[:len(list)]
		first, e := chunk.Join(given...)
		if !slices.Equal(memory, append(slices.Clone(list), behind, behind)) {
			t.Errorf("changed: %.80q", memory)
		}
		clear(memory)
		wantJoin(t, "a later call", list, first, e)
	}
}

// P7.2: the empty string, each first byte, and words of any length.
func TestCritical(t *testing.T) {
	want := func(kind string, critical bool) {
		t.Helper()
		if chunk.Critical(kind) != critical {
			t.Errorf("Critical(%.20q) is not %v", kind, critical)
		}
	}
	want("", false)
	for b := range 256 {
		upper := strings.IndexByte("ABCDEFGHIJKLMNOPQRSTUVWXYZ", byte(b)) >= 0
		for _, behind := range []string{"", "E", "e", "\x00", "EN", "END", "END1", "\xff\xff\xff", strings.Repeat("x", 1000)} {
			want(string([]byte{byte(b)})+behind, upper)
		}
	}
	for kind, critical := range map[string]bool{
		"IHDR": true, "PLTE": true, "IDAT": true, "IEND": true, "tRNS": false, "tEXt": false, "iEND": false, "Iend": true, "[END": false, "@END": false, "Ä": false, " IEND": false,
	} {
		want(kind, critical)
	}
}
