package filter_test

import (
	"strings"
	"testing"

	"vitrine/api"
	"vitrine/filter"
)

// P9.1: the examples of the document.
func TestExamples(t *testing.T) {
	wantDo(t, 1, 1, "\x03\x05\x04", "", "\x03\x02\xff", api.OK)
	wantUndo(t, 1, 1, "\x03\x02\xff", "", "\x03\x05\x04", api.OK)
	wantDo(t, 1, 4, "\x07", "\x05", "\x02", api.OK)
	wantPick(t, 1, "\x09\x09\x09\x09", "", 1, api.OK)
}

// P9.1, P9.3: rows whose filtered bytes are worked out by hand, of all types.
func TestByHand(t *testing.T) {
	for _, x := range []struct {
		bpp         int
		line, above string
		want        [5]string
	}{
		{1, text(10, 20, 30, 40), text(1, 2, 3, 4), [5]string{text(10, 20, 30, 40), text(10, 10, 10, 10), text(9, 18, 27, 36), text(10, 14, 19, 23), text(9, 10, 10, 10)}},
		{2, text(10, 20, 30, 40), text(1, 2, 3, 4), [5]string{text(10, 20, 30, 40), text(10, 20, 20, 20), text(9, 18, 27, 36), text(10, 19, 24, 28), text(9, 18, 20, 20)}},
		{3, text(10, 20, 30, 40), text(1, 2, 3, 4), [5]string{text(10, 20, 30, 40), text(10, 20, 30, 30), text(9, 18, 27, 36), text(10, 19, 29, 33), text(9, 18, 27, 30)}},
		{4, text(10, 20, 30, 40), text(1, 2, 3, 4), [5]string{text(10, 20, 30, 40), text(10, 20, 30, 40), text(9, 18, 27, 36), text(10, 19, 29, 38), text(9, 18, 27, 36)}},
		{1, text(10, 20, 30, 40), "", [5]string{text(10, 20, 30, 40), text(10, 10, 10, 10), text(10, 20, 30, 40), text(10, 15, 20, 25), text(10, 10, 10, 10)}},
		{2, text(10, 20, 30, 40), "", [5]string{text(10, 20, 30, 40), text(10, 20, 20, 20), text(10, 20, 30, 40), text(10, 20, 25, 30), text(10, 20, 20, 20)}},
		{1, text(0, 255, 0, 1), text(255, 0, 255, 2), [5]string{text(0, 255, 0, 1), text(0, 255, 1, 1), text(1, 255, 1, 255), text(129, 255, 1, 0), text(1, 255, 1, 1)}},
		{8, text(200), text(201), [5]string{text(200), text(200), text(255), text(100), text(255)}},
	} {
		for kind, want := range x.want {
			wantPair(t, x.bpp, kind, x.line, x.above, want)
		}
	}
}

// P9.1: empty rows, with bytes a pixel of each number.
func TestEmptyRow(t *testing.T) {
	for bpp := 1; bpp <= 8; bpp++ {
		for kind := range 5 {
			wantPair(t, bpp, kind, "", "", "")
		}
		wantPick(t, bpp, "", "", 0, api.OK)
	}
}

// P9.1: up to the length of a pixel there is nothing ahead of a byte, and from there on there is.
func TestShortRows(t *testing.T) {
	for bpp := 1; bpp <= 8; bpp++ {
		for n := 1; n <= 2*bpp; n++ {
			row, above := strings.Repeat("\x07", n), strings.Repeat("\x03", n)
			first, later := min(n, bpp), max(0, n-bpp)
			of := func(a, b string) string { return strings.Repeat(a, first) + strings.Repeat(b, later) }
			for kind, want := range []string{of("\x07", "\x07"), of("\x07", "\x00"), of("\x07", "\x07"), of("\x07", "\x04"), of("\x07", "\x00")} {
				wantPair(t, bpp, kind, row, "", want)
			}
			for kind, want := range []string{of("\x07", "\x07"), of("\x07", "\x00"), of("\x04", "\x04"), of("\x06", "\x02"), of("\x04", "\x00")} {
				wantPair(t, bpp, kind, row, above, want)
			}
		}
	}
}

// P9.1, P9.2, P9.3: rows of each length up to several pixels, with each number of bytes a pixel, against the models.
func TestLengths(t *testing.T) {
	for bpp := 1; bpp <= 8; bpp++ {
		for n := range 4*bpp + 3 {
			for seed := range 20 {
				line, above := noise(seed, n), noise(1000+seed, n)
				wantModel(t, bpp, line, above)
				wantModel(t, bpp, line, "")
				wantModel(t, bpp, line, strings.Repeat("\x00", n))
				wantModel(t, bpp, line, line)
			}
		}
	}
}

// P9.1: Undo returns the row for which Do returns the line, and there is no other one.
func TestUndo(t *testing.T) {
	for bpp := 1; bpp <= 8; bpp++ {
		for _, n := range []int{1, bpp, bpp + 1, 2*bpp + 1} {
			for kind := range 5 {
				line, above := noise(bpp+kind, n), noise(50+bpp+kind, n)
				wantUndo(t, bpp, kind, line, above, undoModel(bpp, kind, line, above), api.OK)
				wantUndo(t, bpp, kind, line, "", undoModel(bpp, kind, line, ""), api.OK)
			}
		}
	}
}

// wantPrediction wants what a filter type predicts of a, b and c, with each number of bytes a pixel.
func wantPrediction(t *testing.T, kind, a, b, c, want int) {
	t.Helper()
	if got := predictionModel(kind, a, b, c); got != want {
		t.Fatalf("the model says %d, not %d: type %d of %d, %d, %d", got, want, kind, a, b, c)
	}
	for bpp := 1; bpp <= 8; bpp++ {
		above := strings.Repeat(text(c), bpp) + text(b)
		for _, x := range []int{0, 1, want, 127, 128, 255} {
			line, e := filter.Do(bpp, kind, strings.Repeat(text(a), bpp)+text(x), above)
			if e != api.OK || len(line) != bpp+1 || line[bpp] != byte(x-want) {
				t.Errorf("Do, type %d of %d, %d, %d: [% X], %v; not %d as prediction", kind, a, b, c, line, e, want)
				continue
			}
			wantUndo(t, bpp, kind, line, above, strings.Repeat(text(a), bpp)+text(x), api.OK)
		}
	}
}

// P9.1: (a + b) / 2 with even sums and odd ones, below and above 255; c makes no difference.
func TestMean(t *testing.T) {
	for _, c := range []int{0, 1, 128, 255} {
		for _, x := range [][3]int{
			{0, 0, 0}, {1, 0, 0}, {0, 1, 0}, {1, 1, 1}, {1, 2, 1}, {2, 1, 1}, {2, 2, 2}, {0, 255, 127}, {255, 0, 127}, {127, 128, 127}, {128, 127, 127},
			{128, 128, 128}, {1, 255, 128}, {255, 2, 128}, {255, 253, 254}, {254, 255, 254}, {255, 254, 254}, {255, 255, 255},
		} {
			wantPrediction(t, 3, x[0], x[1], c, x[2])
		}
	}
}

// P9.1: the types that need no more than one byte.
func TestPlain(t *testing.T) {
	for _, x := range [][3]int{{1, 2, 3}, {255, 0, 128}, {0, 255, 7}, {0, 0, 255}, {200, 100, 50}} {
		wantPrediction(t, 0, x[0], x[1], x[2], 0)
		wantPrediction(t, 1, x[0], x[1], x[2], x[0])
		wantPrediction(t, 2, x[0], x[1], x[2], x[1])
	}
}

// P9.1: the filter type 4: each of a, b and c alone the nearest, two or three of them equally near, and a + b - c below 0 and above 255.
func TestNearest(t *testing.T) {
	for _, x := range [][4]int{
		{50, 10, 11, 50}, {10, 50, 11, 50}, {10, 50, 30, 30}, {50, 10, 31, 31}, {30, 10, 20, 20}, // one of them
		{8, 11, 10, 8}, {12, 9, 10, 12}, {80, 110, 100, 80}, {120, 90, 100, 120}, // a and c
		{11, 8, 10, 8}, {9, 12, 10, 12}, {110, 80, 100, 80}, {90, 120, 100, 120}, // b and c
		{5, 5, 9, 5}, {5, 5, 1, 5}, {9, 5, 9, 5}, {5, 9, 9, 5}, {5, 9, 5, 9}, {9, 5, 5, 9}, // equal ones among them
		{0, 0, 0, 0}, {5, 5, 5, 5}, {255, 255, 255, 255}, // all of them
		{0, 0, 5, 0}, {1, 2, 255, 1}, {2, 1, 255, 1}, {0, 1, 2, 0}, {1, 0, 2, 0}, {0, 0, 255, 0}, {0, 5, 6, 0}, {3, 1, 5, 1}, {0, 127, 128, 0}, // below 0
		{255, 254, 0, 255}, {254, 255, 0, 255}, {255, 255, 254, 255}, {200, 100, 44, 200}, {255, 1, 0, 255}, {128, 129, 1, 129}, {255, 255, 0, 255}, {254, 255, 253, 255}, // above 255
	} {
		wantPrediction(t, 4, x[0], x[1], x[2], x[3])
	}
}

// wantAllOf wants what a filter type predicts of an a, each b and a c: a row has that a again and again, and another byte behind each of them.
func wantAllOf(t *testing.T, kind, a, c int) {
	t.Helper()
	row, above, want := make([]byte, 512), make([]byte, 512), make([]byte, 256)
	for b := range 256 {
		row[2*b], row[2*b+1] = byte(a), byte(b+c)
		above[2*b], above[2*b+1] = byte(c), byte(b)
		want[b] = byte(b + c - predictionModel(kind, a, b, c))
	}
	got, e := filter.Do(1, kind, string(row), string(above))
	if e != api.OK || len(got) != len(row) {
		t.Fatalf("type %d: %d bytes, %v", kind, len(got), e)
	}
	for b := range 256 {
		if got[2*b+1] != want[b] {
			t.Errorf("type %d of %d, %d, %d: %d, not %d", kind, a, b, c, got[2*b+1], want[b])
		}
	}
	if back, e := filter.Undo(1, kind, got, string(above)); e != api.OK || back != string(row) {
		t.Errorf("type %d of %d and %d: Undo of [% X] is [% X], %v", kind, a, c, got, back, e)
	}
}

// P9.1, P9.3: each a, b and c that there are.
func TestAllPredictions(t *testing.T) {
	for a := range 256 {
		for c := range 256 {
			wantAllOf(t, 4, a, c)
		}
		for _, c := range []int{0, 1, 127, 128, 255} {
			for kind := range 4 {
				wantAllOf(t, kind, a, c)
			}
		}
	}
}

// P9.1: differences and sums beyond a byte: each byte ahead of each other one and below it, and a long row that climbs.
func TestModulo(t *testing.T) {
	for a := range 256 {
		for x := range 256 {
			wantPair(t, 1, 1, text(a, x), "", text(a, x-a))
			wantPair(t, 1, 2, text(x), text(a), text(x-a))
		}
	}
	climb, fall := make([]int, 1000), make([]int, 1000)
	for i := range 1000 {
		climb[i], fall[i] = i+1, -1-i
	}
	for _, kind := range []int{1, 4} {
		wantPair(t, 1, kind, text(climb...), "", strings.Repeat("\x01", 1000))
		wantPair(t, 1, kind, text(fall...), "", strings.Repeat("\xff", 1000))
	}
}
