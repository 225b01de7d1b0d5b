package bands_test

import (
	"strings"
	"testing"

	"vitrine/api"
)

// P15.1: names that are written out, right and wrong ones.
func TestNameByHand(t *testing.T) {
	for _, s := range []string{"a", "!", "~", "0", "A", "z", "/", ".", "..", "\"", "\\", "%00", "a/b", "a-picture.png", "!~", "~!", "0123456789abcdefghijklmnopqrstuv", "!!!!!!!!!!!!!!!!!!!!!!!!!!!!!!!!", "~~~~~~~~~~~~~~~~~~~~~~~~~~~~~~~~"} {
		wantName(t, s, api.OK)
	}
	for _, s := range []string{"", " ", "  ", "a b", " a", "a ", "\x00", "a\x00", "\x00a", "a\n", "\ta", "\x1f", "\x7f", "a\x7fb", "\x80", "\xff", "\xa1", "ä", "aä", "€", "\U0001f5bc", "\ufeffa", "0123456789abcdefghijklmnopqrstuvw", "0123456789abcdefghijklmnopqrstu ", " 123456789abcdefghijklmnopqrstuv", "0123456789abcdefghijklmnopqrst\x7fv"} {
		wantName(t, s, api.ErrName)
	}
}

// P15.1: names of each length, of bytes of each end and between.
func TestNameLengths(t *testing.T) {
	for _, letter := range []string{"!", "a", "~"} {
		wantName(t, "", api.ErrName)
		wantName(t, letter, api.OK)
		wantName(t, strings.Repeat(letter, 32), api.OK)
		wantName(t, strings.Repeat(letter, 33), api.ErrName)
		for n := 1; n <= 1100; n++ {
			want := api.OK
			if n > 32 {
				want = api.ErrName
			}
			wantName(t, strings.Repeat(letter, n), want)
		}
		for _, n := range []int{65535, 65536, 65537, 65568, 1<<24 + 1, 1<<24 + 32} {
			wantName(t, strings.Repeat(letter, n), api.ErrName)
		}
	}
}

// P15.1: each byte alone, ahead of others and behind others, and at each place of names of each length.
func TestNameEachByte(t *testing.T) {
	for b := range 256 {
		want := api.ErrName
		if b >= 33 && b <= 126 {
			want = api.OK
		}
		one := string([]byte{byte(b)})
		for _, s := range []string{one, one + "a", "a" + one, one + "xyz", "xyz" + one, "x" + one + "z", one + one, "!" + one + "~", one + strings.Repeat("a", 31), strings.Repeat("a", 31) + one} {
			wantName(t, s, want)
		}
		for n := 1; n <= 33; n++ {
			for at := range n {
				s := changed(strings.Repeat("m", n), at, byte(b))
				if n == 33 {
					wantName(t, s, api.ErrName)
				} else {
					wantName(t, s, want)
				}
			}
		}
	}
}

// P15.1: each two bytes.
func TestNameTwoBytes(t *testing.T) {
	right := 0
	for a := range 256 {
		for b := range 256 {
			want := api.ErrName
			if a > 32 && a < 127 && b > 32 && b < 127 {
				want = api.OK
				right++
			}
			wantName(t, string([]byte{byte(a), byte(b)}), want)
		}
	}
	if right != 94*94 {
		t.Errorf("%d names of two bytes", right)
	}
}
