package filter_test

import (
	"slices"
	"strings"
	"testing"

	"vitrine/api"
	"vitrine/filter"
)

// noise is n bytes without a short period, others for each seed.
func noise(seed, n int) string {
	b := make([]byte, n)
	x := uint32(seed)*2654435761 + 7
	for i := range b {
		x = x*1664525 + 1013904223
		b[i] = byte(x >> 24)
	}
	return string(b)
}

// text is bytes as a string.
func text(bytes ...int) string {
	b := make([]byte, len(bytes))
	for i, n := range bytes {
		b[i] = byte(n)
	}
	return string(b)
}

// predictionModel is the prediction of a filter type in the chapter's words.
func predictionModel(kind, a, b, c int) int {
	switch kind {
	case 1:
		return a
	case 2:
		return b
	case 3:
		return (a + b - (a+b)%2) / 2
	case 4:
		best, least := 0, 10000
		for _, x := range []int{a, b, c} {
			away := a + b - c - x
			if away < 0 {
				away = -away
			}
			if away < least {
				best, least = x, away
			}
		}
		return best
	}
	return 0
}

// doModel is Do for right arguments in the chapter's words. What is missing ahead of the rows and above is laid there as bytes of 0.
func doModel(bpp, kind int, line, above string) string {
	if above == "" {
		above = strings.Repeat("\x00", len(line))
	}
	ahead := strings.Repeat("\x00", bpp)
	row, up := ahead+line, ahead+above
	var out strings.Builder
	for i := range len(line) {
		p := predictionModel(kind, int(row[i]), int(up[i+bpp]), int(up[i]))
		out.WriteByte(byte((int(row[i+bpp]) + 256 - p) % 256))
	}
	return out.String()
}

// undoModel is the row for which doModel returns line: byte after byte, each value is tried.
func undoModel(bpp, kind int, line, above string) string {
	row := ""
	for i := range len(line) {
		up := above[:min(i+1, len(above))]
		found := 0
		for b := range 256 {
			if next := row + text(b); len(next) == i+1 && doModel(bpp, kind, next, up)[i] == line[i] {
				row = next
				found++
			}
		}
		if found != 1 {
			panic("the model has found no row, or several")
		}
	}
	return row
}

// sumsModel is the sums of all filter types.
func sumsModel(bpp int, line, above string) []int {
	var sums []int
	for kind := range 5 {
		sum := 0
		for _, b := range []byte(doModel(bpp, kind, line, above)) {
			if b <= 128 {
				sum += int(b)
			} else {
				sum += 256 - int(b)
			}
		}
		sums = append(sums, sum)
	}
	return sums
}

// pickModel is Pick for right arguments in the chapter's words.
func pickModel(bpp int, line, above string) int {
	sums := sumsModel(bpp, line, above)
	return slices.Index(sums, slices.Min(sums))
}

// wantDo holds the results of Do against those that are wanted.
func wantDo(t *testing.T, bpp, kind int, line, above, want string, e api.Errno) {
	t.Helper()
	if got, gotE := filter.Do(bpp, kind, line, above); got != want || gotE != e {
		t.Errorf("Do(%d, %d, [% .40X] (%d), [% .40X] (%d)) is [% .40X] (%d), %v; not [% .40X] (%d), %v", bpp, kind, line, len(line), above, len(above), got, len(got), gotE, want, len(want), e)
	}
}

// wantUndo holds the results of Undo against those that are wanted.
func wantUndo(t *testing.T, bpp, kind int, line, above, want string, e api.Errno) {
	t.Helper()
	if got, gotE := filter.Undo(bpp, kind, line, above); got != want || gotE != e {
		t.Errorf("Undo(%d, %d, [% .40X] (%d), [% .40X] (%d)) is [% .40X] (%d), %v; not [% .40X] (%d), %v", bpp, kind, line, len(line), above, len(above), got, len(got), gotE, want, len(want), e)
	}
}

// wantPick holds the results of Pick against those that are wanted.
func wantPick(t *testing.T, bpp int, line, above string, want int, e api.Errno) {
	t.Helper()
	if got, gotE := filter.Pick(bpp, line, above); got != want || gotE != e {
		t.Errorf("Pick(%d, [% .40X] (%d), [% .40X] (%d)) is %d, %v; not %d, %v", bpp, line, len(line), above, len(above), got, gotE, want, e)
	}
}

// wantPair wants that Do makes a line of a row, and Undo the row of the line.
func wantPair(t *testing.T, bpp, kind int, row, above, line string) {
	t.Helper()
	wantDo(t, bpp, kind, row, above, line, api.OK)
	wantUndo(t, bpp, kind, line, above, row, api.OK)
}

// wantModel holds Do, Undo and Pick against the models, each applied to the same bytes.
func wantModel(t *testing.T, bpp int, line, above string) {
	t.Helper()
	for kind := range 5 {
		wantPair(t, bpp, kind, line, above, doModel(bpp, kind, line, above))
		row, e := filter.Undo(bpp, kind, line, above)
		if e != api.OK || len(row) != len(line) {
			t.Errorf("Undo(%d, %d, [% .40X], [% .40X]) has %d bytes, %v", bpp, kind, line, above, len(row), e)
			continue
		}
		wantDo(t, bpp, kind, row, above, line, api.OK)
	}
	wantPick(t, bpp, line, above, pickModel(bpp, line, above), api.OK)
}
