package chunk_test

import (
	"encoding/binary"
	"hash/crc32"
	"regexp"
	"slices"
	"strings"
	"testing"

	"vitrine/api"
	"vitrine/chunk"
)

// sign is what a PNG begins with.
const sign = "\x89\x50\x4e\x47\x0d\x0a\x1a\x0a"

// number is 4 bytes, big-endian.
func number(n uint32) string { return string(binary.BigEndian.AppendUint32(nil, n)) }

// sum is the CRC-32 of text as the library has it, big-endian.
func sum(text string) string { return number(crc32.ChecksumIEEE([]byte(text))) }

// coded is the encoding of a chunk of any type, with a right length and a right sum.
func coded(kind, data string) string {
	return number(uint32(len(data))) + kind + data + sum(kind+data)
}

// changed is text with another byte at a place.
func changed(text string, at int, b byte) string {
	return text[:at] + string([]byte{b}) + text[at+1:]
}

// noise is n bytes without a short period.
func noise(n int) string {
	b := make([]byte, n)
	x := uint32(7)
	for i := range b {
		x = x*1664525 + 1013904223
		b[i] = byte(x >> 24)
	}
	return string(b)
}

// lists are chunks of all kinds: none, one and many, with data and without, known types and others, the same one twice.
func lists() [][]api.Chunk {
	return [][]api.Chunk{
		{},
		{{Type: "IEND"}},
		{{Type: "IEND"}, {Type: "IEND"}},
		{{Type: "tEXt", Data: "a\x00b"}, {Type: "IEND"}},
		{{Type: "AZaz", Data: "\x00"}, {Type: "zaZA", Data: "\xff"}, {Type: "AAAA"}, {Type: "zzzz"}},
		{{Type: "IDAT", Data: noise(255)}, {Type: "IDAT", Data: noise(256)}, {Type: "IDAT", Data: noise(257)}},
		{{Type: "IDAT", Data: strings.Repeat("\x00", 65535)}, {Type: "IDAT", Data: noise(70000)}, {Type: "IEND"}},
		{{Type: "anyt", Data: sign + coded("IEND", "")}, {Type: "IEND", Data: coded("IDAT", "x")}},
		{{Type: "IHDR", Data: "\x00\x00\x00\x01\x00\x00\x00\x01\x08\x00\x00\x00\x00"}, {Type: "IDAT", Data: "x"}, {Type: "IDAT"}, {Type: "IEND"}},
	}
}

// fileOf is chunks as a PNG, part by part as the chapter tells them.
func fileOf(chunks []api.Chunk) string {
	file := sign
	for _, c := range chunks {
		file += coded(c.Type, c.Data)
	}
	return file
}

var letters = regexp.MustCompile(`\A[A-Za-z]{4}\z`)

// splitModel is P7.1 in its own words.
func splitModel(file string) ([]api.Chunk, api.Errno) {
	if len(file) < 8 || file[:8] != sign {
		return nil, api.ErrSign
	}
	var chunks []api.Chunk
	for at := 8; at < len(file); {
		remain := int64(len(file) - at)
		if remain < 8 {
			return nil, api.ErrEnd
		}
		n := int64(binary.BigEndian.Uint32([]byte(file[at : at+4])))
		kind := file[at+4 : at+8]
		if n > 2147483647 || !letters.MatchString(kind) {
			return nil, api.ErrChunk
		}
		if remain-8 < n+4 {
			return nil, api.ErrEnd
		}
		data := file[at+8 : at+8+int(n)]
		at += 8 + int(n)
		if binary.BigEndian.Uint32([]byte(file[at:at+4])) != crc32.ChecksumIEEE([]byte(kind+data)) {
			return nil, api.ErrCrc
		}
		at += 4
		chunks = append(chunks, api.Chunk{Type: kind, Data: data})
	}
	return chunks, api.OK
}

// wantSplit holds the results of Split against those that are wanted.
func wantSplit(t *testing.T, name, file string, want []api.Chunk, e api.Errno) {
	t.Helper()
	if got, gotE := chunk.Split(file); !slices.Equal(got, want) || gotE != e {
		t.Errorf("%s, %.80q (%d): %.80q (%d), %v; not %.80q (%d), %v", name, file, len(file), got, len(got), gotE, want, len(want), e)
	}
}

// wantNoSplit wants the error, and no chunks with it.
func wantNoSplit(t *testing.T, name, file string, e api.Errno) {
	t.Helper()
	wantSplit(t, name, file, nil, e)
}

// wantModel holds Split against the model, and returns the error.
func wantModel(t *testing.T, file string) api.Errno {
	t.Helper()
	want, e := splitModel(file)
	wantSplit(t, "not as the model", file, want, e)
	return e
}

// wantJoin holds the results of Join against those that are wanted.
func wantJoin(t *testing.T, name string, chunks []api.Chunk, want string, e api.Errno) {
	t.Helper()
	if got, gotE := chunk.Join(chunks...); got != want || gotE != e {
		t.Errorf("%s, %.80q (%d): %.80q (%d), %v; not %.80q (%d), %v", name, chunks, len(chunks), got, len(got), gotE, want, len(want), e)
	}
}
