package lace_test

import (
	"math"
	"slices"
	"testing"

	"vitrine/api"
)

// P10.1, P10.2: widths and heights at the limits and beyond them, in each format.
func TestSides(t *testing.T) {
	for _, x := range []struct {
		w, h  int
		right bool
	}{
		{1, 1, true}, {1023, 1, true}, {1024, 1, true}, {1023, 4, true}, {1024, 4, true}, {64, 64, true}, {512, 8, true}, {63, 65, true}, {819, 5, true},
		{1025, 1, false}, {1025, 3, false}, {1025, 4, false}, {1024, 5, false}, {1023, 5, false}, {64, 65, false}, {17, 241, false}, {820, 5, false}, {1024, 1024, false}, {4096, 1, false}, {2048, 2, false}, {1366, 3, false},
		{0, 1, false}, {0, 0, false}, {0, 1024, false}, {0, 1025, false}, {-1, 1, false}, {-1, -1, false}, {-1, 0, false}, {-8, 8, false}, {-64, -64, false}, {-1024, 4, false}, {math.MinInt, 1, false}, {math.MinInt, math.MinInt, false}, {math.MinInt, -1, false},
		{2147483647, 1, false}, {2147483648, 1, false}, {2147483647, 2147483647, false}, {1 << 32, 1 << 32, false}, {1<<32 + 1, 1, false}, {1 << 62, 4, false}, {math.MaxInt, 1, false}, {math.MaxInt, math.MaxInt, false},
	} {
		for _, f := range formats() {
			for lace := range 2 {
				for _, h := range []api.Head{f.head(x.w, x.h, lace), f.head(x.h, x.w, lace)} {
					if isRight(h) != x.right {
						t.Fatalf("%+v", h)
					}
					wantModel(t, h)
					if !x.right {
						wantNothing(t, h)
					}
				}
			}
		}
	}
}

// P10.1, P10.2: sizes of just 4096 pixels, and with one column or one row more.
func TestAreas(t *testing.T) {
	for w := 4; w <= 1024; w *= 2 {
		for lace := range 2 {
			if len(passesModel(grey(w, 4096/w, lace))) == 0 {
				t.Errorf("%d: no passes", w)
			}
			wantModel(t, grey(w, 4096/w, lace))
			wantNothing(t, grey(w, 4096/w+1, lace))
			wantNothing(t, grey(w+1, 4096/w, lace))
		}
	}
}

// P10.1, P10.2: what is neither interlaced nor not interlaced.
func TestWrongLace(t *testing.T) {
	for _, f := range formats() {
		for _, lace := range slices.Concat([]int{-2, -1, 2, 3, 7, 8}, far(0), far(1)) {
			wantNothing(t, f.head(1, 1, lace))
			wantNothing(t, f.head(17, 17, lace))
		}
	}
}

// P10.1, P10.2: each colour type with each depth, and wrong ones.
func TestWrongFormats(t *testing.T) {
	right := 0
	for colour := -2; colour < 20; colour++ {
		for depth := -20; depth < 40; depth++ {
			for lace := range 2 {
				h := format{colour, depth, 0}.head(12, 11, lace)
				wantModel(t, h)
				if isRight(h) {
					right++
				} else {
					wantNothing(t, h)
				}
			}
		}
	}
	if right != 2*len(formats()) {
		t.Errorf("%d right headers", right)
	}
	for _, f := range formats() {
		for i := range far(0) {
			wantNothing(t, format{far(f.colour)[i], f.depth, 0}.head(12, 11, 1))
			wantNothing(t, format{f.colour, far(f.depth)[i], 0}.head(12, 11, 1))
		}
	}
}

// P10.1, P10.2: right and wrong values of all fields together.
func TestTogether(t *testing.T) {
	sides := []int{-1, 0, 1, 5, 64, 65, 1023, 1024, 1025}
	for _, w := range sides {
		for _, h := range sides {
			for colour := -1; colour < 8; colour++ {
				for _, depth := range []int{-1, 0, 1, 2, 3, 4, 8, 9, 16, 32} {
					for lace := -1; lace < 3; lace++ {
						head := format{colour, depth, 0}.head(w, h, lace)
						wantModel(t, head)
						if !isRight(head) {
							wantNothing(t, head)
						}
					}
				}
			}
		}
	}
	wantNothing(t, api.Head{})
}
