package head_test

import (
	"slices"
	"strings"
	"testing"

	"vitrine/api"
)

// parts are the letters of partOf, in the order of the columns of wantPairs.
const parts = "PTDExCH"

// wantPairs wants the errors of pairs of chunks behind some: a row has the letter of the first one and a letter for each second one, o for ErrOrder, e for ErrEnd, m for ErrMore, c for ErrCritical, p for ErrPalette, t for ErrTrans, and a point for none.
func wantPairs(t *testing.T, colour int, ahead string, rows ...string) {
	t.Helper()
	errors := map[byte]api.Errno{'o': api.ErrOrder, 'e': api.ErrEnd, 'm': api.ErrMore, 'c': api.ErrCritical, 'p': api.ErrPalette, 't': api.ErrTrans, '.': api.OK}
	for _, row := range rows {
		for i := range len(parts) {
			e, known := errors[row[2+i]]
			if !known {
				t.Fatalf("no letter of an error: %q", row)
			}
			wantWay(t, colour, ahead+row[:1]+parts[i:i+1], e)
		}
	}
}

// P8.3: each chunk ahead of each other one, right behind the header.
func TestPairs(t *testing.T) {
	wantPairs(t, api.RGB, "H", "P oeeoeco", "T ooeoeco", "D ooe.eco", "E ooooooo", "x eeeoeco", "C ccccccc", "H ooooooo")
	wantPairs(t, api.Palette, "H", "P oeeoeco", "T ooooooo", "D ooooooo", "E ooooooo", "x eoooeco", "C ccccccc", "H ooooooo")
	wantPairs(t, api.Grey, "H", "P ppppppp", "T ooeoeco", "D ooe.eco", "E ooooooo", "x peeoeco", "C ccccccc", "H ooooooo")
	wantPairs(t, api.GreyA, "H", "P ppppppp", "T ttttttt", "D ooe.eco", "E ooooooo", "x pteoeco", "C ccccccc", "H ooooooo")
	wantPairs(t, api.RGBA, "H", "P oteoeco", "T ttttttt", "D ooe.eco", "E ooooooo", "x eteoeco", "C ccccccc", "H ooooooo")
}

// P8.3: each chunk ahead of each other one, behind a palette, data or the end.
func TestPairsLater(t *testing.T) {
	for _, colour := range []int{api.Palette, api.RGB} {
		wantPairs(t, colour, "HP", "P ooooooo", "T ooeoeco", "D ooe.eco", "E ooooooo", "x oeeoeco", "C ccccccc", "H ooooooo")
		wantPairs(t, colour, "HPT", "P ooooooo", "T ooooooo", "D ooe.eco", "E ooooooo", "x ooeoeco", "C ccccccc", "H ooooooo")
	}
	for _, colour := range colours() {
		ahead := "H"
		if colour == api.Palette {
			ahead = "HP"
		}
		wantPairs(t, colour, ahead+"D", "P ooooooo", "T ooooooo", "D ooe.eco", "E mmmmmmm", "x ooo.eco", "C ccccccc", "H ooooooo")
		wantPairs(t, colour, ahead+"Dx", "P ooooooo", "T ooooooo", "D ooooooo", "E mmmmmmm", "x ooo.eco", "C ccccccc", "H ooooooo")
		wantPairs(t, colour, ahead+"DE", "P mmmmmmm", "T mmmmmmm", "D mmmmmmm", "E mmmmmmm", "x mmmmmmm", "C mmmmmmm", "H mmmmmmm")
	}
}

// P8.3: whole files, with all that they may have and with what they need.
func TestWhole(t *testing.T) {
	for colour, ways := range map[int]string{api.Grey: "HDE HTDE HDDDE HxTxDxE", api.RGB: "HDE HPDE HTDE HPTDE HxPxTxDDxE", api.Palette: "HPDE HPTDE HxPxTxDDxE", api.GreyA: "HDE HxxDDxxE", api.RGBA: "HDE HPDE HxPxDxE"} {
		for _, way := range strings.Fields(ways) {
			wantWay(t, colour, way, api.OK)
		}
	}
}

// P8.3: of several errors of one chunk, the first one that is mentioned.
func TestSeveralErrors(t *testing.T) {
	want := func(colour int, letters string, e api.Errno, last ...api.Chunk) {
		t.Helper()
		wantError(t, letters, e, append(listOf(colour, letters), last...)...)
	}
	for _, data := range []string{"", "ab", "abcd", "abcdefg", noise(768), noise(771), noise(2000)} {
		for _, ahead := range []string{"HP", "HPT", "HT", "HD", "HPD", "HDx", "HTxx"} {
			want(api.RGB, ahead, api.ErrOrder, c("PLTE", data))
		}
		for _, ahead := range []string{"HP", "HPx", "HPT", "HPD"} {
			want(api.Palette, ahead, api.ErrOrder, c("PLTE", data))
		}
		want(api.Grey, "HT", api.ErrOrder, c("PLTE", data))
		want(api.Grey, "HD", api.ErrOrder, c("PLTE", data))
		want(api.GreyA, "HD", api.ErrOrder, c("PLTE", data))
		want(api.Palette, "H", api.ErrOrder, c("tRNS", data))
		want(api.Palette, "Hx", api.ErrOrder, c("tRNS", data))
		want(api.Palette, "HPT", api.ErrOrder, c("tRNS", data))
		want(api.Palette, "HPD", api.ErrOrder, c("tRNS", data))
		for _, colour := range []int{api.Grey, api.RGB} {
			want(colour, "HT", api.ErrOrder, c("tRNS", data))
			want(colour, "HD", api.ErrOrder, c("tRNS", data))
			want(colour, "HTD", api.ErrOrder, c("tRNS", data))
		}
		want(api.GreyA, "HD", api.ErrOrder, c("tRNS", data))
		want(api.RGBA, "HPD", api.ErrOrder, c("tRNS", data))
		want(api.RGB, "HPTD", api.ErrOrder, c("IHDR", data))
		want(api.RGB, "H", api.ErrOrder, c("IHDR", data))
	}
	want(api.RGBA, "H", api.ErrTrans, c("tRNS", "transp"))
	want(api.GreyA, "H", api.ErrTrans, c("tRNS", "tr"))
	want(api.Grey, "H", api.ErrPalette, c("PLTE", "ab"))
}

// errorChunks are chunks that are an error by themselves behind a right header of RGB, without data ahead of them.
func errorChunks() map[api.Chunk]api.Errno {
	return map[api.Chunk]api.Errno{
		small(api.RGB, 8):   api.ErrOrder,
		c("PLTE", "ab"):     api.ErrPalette,
		c("tRNS", "ab"):     api.ErrTrans,
		c("IEND", ""):       api.ErrOrder,
		c("IEND", "\x00"):   api.ErrChunk,
		c("ABCD", ""):       api.ErrCritical,
		c("IHDR", "no"):     api.ErrOrder,
		c("PLTE", ""):       api.ErrPalette,
		c("IDATA", "right"): api.ErrCritical,
	}
}

// P8.3: of the errors of several chunks that of the first one, also where the end is missing.
func TestChunkAfterChunk(t *testing.T) {
	h, data, end := small(api.RGB, 8), c("IDAT", "x"), c("IEND", "")
	for a, e := range errorChunks() {
		wantError(t, "alone", e, h, a)
		wantError(t, "behind an ignored one", e, h, c("tEXt", ""), a)
		wantError(t, "ahead of a right file", e, h, a, data, end)
		for b := range errorChunks() {
			wantError(t, "ahead of another", e, h, a, b)
			wantError(t, "ahead of another", e, h, a, data, b, end)
		}
	}
}

// extend holds all lists that begin with some chunks against the model, as long as these are no error, and one chunk beyond.
func extend(t *testing.T, list, alphabet []api.Chunk, most int, seen map[api.Errno]int) {
	e := wantModel(t, list)
	seen[e]++
	for _, x := range alphabet {
		longer := append(slices.Clone(list), x)
		switch {
		case e == api.ErrEnd && len(list) < most:
			extend(t, longer, alphabet, most, seen)
		case e == api.OK:
			wantError(t, "behind the end", api.ErrMore, longer...)
		case e != api.ErrEnd:
			wantError(t, "behind an error", e, longer...)
		}
	}
}

// P8.3: all short lists of chunks of all kinds, right and wrong ones.
func TestAllLists(t *testing.T) {
	seen := map[api.Errno]int{}
	for _, colour := range colours() {
		alphabet := listOf(colour, "HPTDExC")
		alphabet = append(alphabet, c("PLTE", "ab"), c("tRNS", "transpa"), c("tRNS", ""), c("IDAT", ""), c("IEND", "x"))
		extend(t, listOf(colour, "H"), alphabet, 6, seen)
	}
	for _, e := range []api.Errno{api.OK, api.ErrOrder, api.ErrPalette, api.ErrTrans, api.ErrCritical, api.ErrChunk, api.ErrEnd} {
		if seen[e] == 0 {
			t.Errorf("never: %v", e)
		}
	}
}
