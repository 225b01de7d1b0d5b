package filter_test

import (
	"math"
	"testing"

	"vitrine/api"
)

// bpps are numbers that a pixel can't have as bytes, among them those whose low bytes could be.
func bpps() []int {
	return []int{0, -1, -2, -7, -8, -9, -255, -256, 9, 10, 16, 127, 128, 255, 256, 257, 264, 1<<16 + 1, 1<<31 + 1, 1<<32 + 1, 1<<32 + 8, 1<<40 + 4, math.MinInt, math.MinInt + 1, math.MaxInt, math.MinInt32, math.MaxInt32}
}

// wrongKinds are numbers of no filter type, among them those whose low bytes could be.
func wrongKinds() []int {
	return []int{-1, -2, -4, -5, -255, -256, 5, 6, 8, 127, 128, 255, 256, 257, 260, 1<<16 + 1, 1<<31 + 1, 1<<32 + 1, 1<<32 + 4, 1<<40 + 2, math.MinInt, math.MinInt + 1, math.MaxInt, math.MinInt32, math.MaxInt32}
}

// wantError wants an error of Do and of Undo, and no row with it.
func wantError(t *testing.T, bpp, kind int, line, above string, e api.Errno) {
	t.Helper()
	wantDo(t, bpp, kind, line, above, "", e)
	wantUndo(t, bpp, kind, line, above, "", e)
}

// wantNoPick wants ErrArg of Pick, and 0 with it, also for a row for which it is not what it would return.
func wantNoPick(t *testing.T, bpp int, line, above string) {
	t.Helper()
	wantPick(t, bpp, line, above, 0, api.ErrArg)
}

// P9.1, P9.2: bytes a pixel that can't be, with rows and types that can be and with such that can't.
func TestWrongBpp(t *testing.T) {
	for _, bpp := range bpps() {
		for _, line := range []string{"", "\x09", "\x09\x09\x09\x09", noise(1, 8), noise(1, 100)} {
			for _, above := range []string{"", line, line + "\x09", "\x09"} {
				for kind := -1; kind <= 5; kind++ {
					wantError(t, bpp, kind, line, above, api.ErrArg)
				}
				for _, kind := range wrongKinds() {
					wantError(t, bpp, kind, line, above, api.ErrArg)
				}
				wantNoPick(t, bpp, line, above)
			}
		}
	}
}

// P9.1, P9.2: each number of bytes a pixel that there can be, with the numbers around them.
func TestBpps(t *testing.T) {
	const line, above = "\x09\x09\x09\x09\x09\x09\x09\x09\x09", "\x01\x02\x03\x04\x05\x06\x07\x08\x09"
	for bpp := -20; bpp <= 20; bpp++ {
		if bpp >= 1 && bpp <= 8 {
			wantModel(t, bpp, line, above)
			wantModel(t, bpp, line, "")
			continue
		}
		for kind := range 5 {
			wantError(t, bpp, kind, line, above, api.ErrArg)
			wantError(t, bpp, kind, line, "", api.ErrArg)
		}
		wantNoPick(t, bpp, line, above)
		wantNoPick(t, bpp, line, "")
	}
}

// P9.1, P9.2: a row above of another length than the row, with types that can be and with such that can't.
func TestWrongAbove(t *testing.T) {
	for bpp := 1; bpp <= 8; bpp++ {
		for _, n := range []int{0, 1, 2, 3, 7, 8, 9, 16, 255, 256, 257} {
			line := noise(n, n)
			for _, m := range []int{1, 2, n - 2, n - 1, n + 1, n + 2, n + bpp, n - bpp, 2 * n, n / 2, n + 256, n - 256} {
				if m <= 0 || m == n {
					continue
				}
				above := noise(m, m)
				for kind := -1; kind <= 5; kind++ {
					wantError(t, bpp, kind, line, above, api.ErrArg)
				}
				wantNoPick(t, bpp, line, above)
			}
		}
		wantNoPick(t, bpp, "\x09\x09\x09", "\x09\x09")
		wantNoPick(t, bpp, "", "\x00")
	}
}

// P9.1: no filter type, with all other arguments as they should be.
func TestWrongKind(t *testing.T) {
	for bpp := 1; bpp <= 8; bpp++ {
		for _, line := range []string{"", "\x09", noise(1, bpp), noise(1, bpp+1), noise(1, 100)} {
			for _, kind := range wrongKinds() {
				wantError(t, bpp, kind, line, "", api.ErrFilter)
				wantError(t, bpp, kind, line, line, api.ErrFilter)
			}
			for kind := -20; kind <= 20; kind++ {
				if kind < 0 || kind > 4 {
					wantError(t, bpp, kind, line, line, api.ErrFilter)
				}
			}
		}
	}
}
