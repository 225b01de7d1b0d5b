package sha_test

import (
	"encoding/hex"
	"strings"
	"testing"

	"vitrine/sha"
)

// P14.2: each byte alone and between others, its high half first, with small letters.
func TestHexEachByte(t *testing.T) {
	const digits = "0123456789abcdef"
	all, want := "", ""
	for high := range 16 {
		for low := range 16 {
			b := string([]byte{byte(16*high + low)})
			two := digits[high:high+1] + digits[low:low+1]
			wantHex(t, b, two)
			wantHex(t, "\x12"+b+"\xfe", "12"+two+"fe")
			all, want = all+b, want+two
		}
	}
	wantHex(t, all, want)
}

// P14.2: strings that are written out, among them none, and such that are no text.
func TestHexWords(t *testing.T) {
	for _, x := range [][2]string{
		{"", ""}, {"\x00", "00"}, {"\x00\x00", "0000"}, {"\x0f", "0f"}, {"\xf0", "f0"}, {"\xff", "ff"}, {"\x00\x0f\xa0\xff", "000fa0ff"}, {"\x10\x01", "1001"},
		{"abc", "616263"}, {"ff", "6666"}, {"0", "30"}, {"\n\"%", "0a2225"}, {"é", "c3a9"}, {"€", "e282ac"}, {"\U0001f5bc", "f09f96bc"}, {"\ufeff", "efbbbf"}, {"\ufffd", "efbfbd"},
		{"\x80", "80"}, {"\xff\xfe\xfd", "fffefd"}, {"\xc3", "c3"}, {"\xa9\xc3", "a9c3"}, {"\xed\xa0\x80", "eda080"}, {"a\x80b", "618062"}, {"a\x00b", "610062"},
		{"\x01\x23\x45\x67\x89\xab\xcd\xef", "0123456789abcdef"}, {"\xfe\xdc\xba\x98\x76\x54\x32\x10", "fedcba9876543210"},
	} {
		wantHex(t, x[0], x[1])
	}
}

// P14.2: strings of many lengths, against the library.
func TestHexLengths(t *testing.T) {
	for _, n := range []int{0, 1, 2, 3, 31, 32, 33, 255, 256, 257, 65535, 65536, 1000000} {
		for _, s := range []string{noise(n, n), strings.Repeat("\x00", n), strings.Repeat("\xff", n)} {
			wantHex(t, s, hex.EncodeToString([]byte(s)))
		}
	}
}

// P14.3: no two strings of up to two bytes have the same digits, nor have strings of equal bytes.
func TestHexDiffers(t *testing.T) {
	list := []string{""}
	for a := range 256 {
		list = append(list, string([]byte{byte(a)}))
		for b := range 256 {
			list = append(list, string([]byte{byte(a), byte(b)}))
		}
		for n := 3; n < 20; n++ {
			list = append(list, strings.Repeat(string([]byte{byte(a)}), n))
		}
	}
	seen := map[string]string{}
	for _, s := range list {
		h := sha.Hex(s)
		if before, ok := seen[h]; ok {
			t.Errorf("Hex of %q and of %q is %q", before, s, h)
		}
		seen[h] = s
	}
}

// P14.3: the digits of a string say that string only: the library reads it back.
func TestHexBack(t *testing.T) {
	for seed := range 1000 {
		s := noise(seed, seed)
		if back, err := hex.DecodeString(sha.Hex(s)); err != nil || string(back) != s {
			t.Errorf("Hex(%.40q) is read as %.40q, %v", s, back, err)
		}
	}
}
