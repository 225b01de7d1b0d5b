package zlib_test

import (
	"encoding/binary"
	"hash/adler32"
	"strings"
	"testing"

	"vitrine/api"
	"vitrine/deflate"
	"vitrine/zlib"
)

// big is more than any text of a test.
const big = 1 << 20

// sum is the Adler-32 of text as the library has it, big-endian.
func sum(text string) string {
	return string(binary.BigEndian.AppendUint32(nil, adler32.Checksum([]byte(text))))
}

// whole is text as a stream of these bytes, with a right head and a right sum.
func whole(stream, text string) string { return "\x78\x01" + stream + sum(text) }

// packed is bits, written as 0 and 1 in the order of the stream, with zero bits up to a whole byte.
func packed(parts ...string) string {
	digits := strings.Join(parts, "")
	b := make([]byte, (len(digits)+7)/8)
	for i, digit := range digits {
		if digit == '1' {
			b[i/8] |= 1 << (i % 8)
		}
	}
	return string(b)
}

// flipped is data with one bit changed.
func flipped(data string, bit int) string {
	b := []byte(data)
	b[bit/8] ^= 1 << (bit % 8)
	return string(b)
}

// noise is n bytes without a short period.
func noise(n int) string {
	b := make([]byte, n)
	x := uint32(7)
	for i := range b {
		x = x*1664525 + 1013904223
		b[i] = byte(x >> 24)
	}
	return string(b)
}

// texts are some of each kind: short and long ones, those that are stored, and those with sums that have all bits somewhere.
func texts() []string {
	return []string{
		"", "a", "\x00", "\xff", "ab", "Wikipedia", "abcabcab", "aaaaaaaaaa", "\x00\x00\x00\x00\x00",
		noise(3), noise(100), noise(1000), noise(3000), strings.Repeat("\xff", 300), strings.Repeat("\x00", 5000),
		strings.Repeat("vitrine, an archive of PNGs on replicas; ", 100) + noise(40),
	}
}

// streams is a text in each kind of block.
func streams(text string) []string {
	return []string{deflate.Stored(text), deflate.Fixed(text), deflate.Dynamic(text)}
}

// check holds the results of Unwrap against those that are wanted.
func check(t *testing.T, name, data string, most int, want string, e api.Errno) {
	t.Helper()
	gotS, gotE := zlib.Unwrap(data, most)
	if gotS != want || gotE != e {
		t.Errorf("%s, %.60q (%d), at most %d: %.60q (%d), %v; not %.60q (%d), %v", name, data, len(data), most, gotS, len(gotS), gotE, want, len(want), e)
	}
}

// wantError wants the error, and no text with it.
func wantError(t *testing.T, name, data string, most int, e api.Errno) {
	t.Helper()
	check(t, name, data, most, "", e)
}
