package deflate_test

import (
	"bytes"
	"compress/flate"
	"io"
	"slices"
	"strings"
	"testing"

	"vitrine/api"
	"vitrine/deflate"
	"vitrine/huff"
	"vitrine/inflate"
	"vitrine/lz"
)

// Bits are written as texts of 0 and 1, in the order in which a stream has them.

// number is n bits of a number, the lowest one first.
func number(v, n int) string {
	b := ""
	for i := range n {
		b += string([]byte{'0' + byte(v>>i&1)})
	}
	return b
}

// word is n bits of a code word, the highest one first.
func word(v, n int) string {
	b := []byte(number(v, n))
	slices.Reverse(b)
	return string(b)
}

// packed is the bytes of bits, with zero bits up to a whole byte.
func packed(parts ...string) string {
	text := strings.Join(parts, "")
	var b []byte
	for i := range len(text) {
		if i%8 == 0 {
			b = append(b, 0)
		}
		b[i/8] |= (text[i] - '0') << (i % 8)
	}
	return string(b)
}

// words is the code word of each symbol.
func words(lens []int) []string {
	codes, e := huff.Codes(lens...)
	if e != api.OK {
		panic(e)
	}
	list := make([]string, len(lens))
	for symbol, n := range lens {
		list[symbol] = word(codes[symbol], n)
	}
	return list
}

// symbol is one of a block, with the extra bits behind it.
type symbol struct {
	value    int
	distance bool
	extra    string
}

// lenSymbol is that of a length, as chapter 3 tells the symbols.
func lenSymbol(length int) symbol {
	if length == 258 {
		return symbol{value: 285}
	}
	least := 3
	for v := 257; ; v++ {
		n := max(0, (v-261)/4)
		if length < least+1<<n {
			return symbol{v, false, number(length-least, n)}
		}
		least += 1 << n
	}
}

// distSymbol is likewise that of a distance.
func distSymbol(distance int) symbol {
	least := 1
	for v := 0; ; v++ {
		n := max(0, (v-2)/2)
		if distance < least+1<<n {
			return symbol{v, true, number(distance-least, n)}
		}
		least += 1 << n
	}
}

// symbols is those of a byte sequence, in order.
func symbols(data string) []symbol {
	var list []symbol
	for _, token := range lz.Tokens(data) {
		if token.Len == 0 {
			list = append(list, symbol{value: token.Byte})
		} else {
			list = append(list, lenSymbol(token.Len), distSymbol(token.Dist))
		}
	}
	return append(list, symbol{value: 256})
}

// body is the bits of symbols.
func body(lits, dists []int, list []symbol) string {
	var b strings.Builder
	litWords, distWords := words(lits), words(dists)
	for _, s := range list {
		w := litWords
		if s.distance {
			w = distWords
		}
		if w[s.value] == "" {
			panic("no code word")
		}
		b.WriteString(w[s.value] + s.extra)
	}
	return b.String()
}

// storedBlock is the bytes of one stored block that begins a byte.
func storedBlock(last byte, s string) string {
	n, other := len(s), 65535-len(s)
	return string([]byte{last, byte(n % 256), byte(n / 256), byte(other % 256), byte(other / 256)}) + s
}

// storedModel, fixedModel and dynamicModel are P5.2 and P5.3 in their own words; the symbols are those of the data.
func storedModel(data string) string {
	s := ""
	for len(data) > 65535 {
		s += storedBlock(0, data[:65535])
		data = data[65535:]
	}
	return s + storedBlock(1, data)
}

func fixedModel(list []symbol) string {
	lits := slices.Concat(some(144, 8), some(112, 9), some(24, 7), some(8, 8))
	return packed("1", number(1, 2), body(lits, some(32, 5), list))
}

// limited is lengths up to the last one that is not 0, but so many of them at least.
func limited(most, least int, counts []int) []int {
	lens, e := huff.Limit(most, counts...)
	if e != api.OK {
		panic(e)
	}
	told := least
	for i, n := range lens {
		if n > 0 {
			told = max(told, i+1)
		}
	}
	return lens[:told]
}

// dynamicLens is the lengths that a dynamic block tells.
func dynamicLens(list []symbol) (lits, dists []int) {
	litCounts, distCounts := make([]int, 286), make([]int, 30)
	for _, s := range list {
		if s.distance {
			distCounts[s.value]++
		} else {
			litCounts[s.value]++
		}
	}
	return limited(15, 257, litCounts), limited(15, 1, distCounts)
}

// order is that of the chapter.
var order = []int{16, 17, 18, 0, 8, 7, 9, 6, 10, 5, 11, 4, 12, 3, 13, 2, 14, 1, 15}

func dynamicModel(list []symbol) string {
	lits, dists := dynamicLens(list)
	runs := runsModel(slices.Concat(lits, dists))
	counts := make([]int, 19)
	for _, run := range runs {
		counts[run.Code]++
	}
	small := limited(7, 19, counts)
	told := 19
	for told > 4 && small[order[told-1]] == 0 {
		told--
	}
	parts := []string{"1", number(2, 2), number(len(lits)-257, 5), number(len(dists)-1, 5), number(told-4, 4)}
	for _, s := range order[:told] {
		parts = append(parts, number(small[s], 3))
	}
	smallWords := words(small)
	for _, run := range runs {
		extra := map[int]int{16: 2, 17: 3, 18: 7}[run.Code]
		parts = append(parts, smallWords[run.Code], number(run.More, extra))
	}
	return packed(append(parts, body(lits, dists, list))...)
}

// models is what the three streams of data are.
func models(data string) []string {
	list := symbols(data)
	return []string{storedModel(data), fixedModel(list), dynamicModel(list)}
}

// wantSaid asks for what a stream says, by this program and by the library's, with bytes behind it and cut off.
func wantSaid(t *testing.T, name, stream, data string) {
	t.Helper()
	for _, more := range []string{"", "\x00\xff\x07"} {
		if s, n, e := inflate.Inflate(stream+more, len(data)); s != data || n != len(stream) || e != api.OK {
			t.Errorf("%s of %.60q (%d): inflated %.60q (%d), %d of %d bytes, %v", name, data, len(data), s, len(s), n, len(stream), e)
		}
	}
	if s, _, e := inflate.Inflate(stream[:max(1, len(stream))-1], len(data)); s != "" || e != api.ErrEnd {
		t.Errorf("%s of %.60q (%d): cut off, inflated %.60q, %v", name, data, len(data), s, e)
	}
	r := flate.NewReader(bytes.NewReader([]byte(stream)))
	if s, err := io.ReadAll(r); string(s) != data || err != nil {
		t.Errorf("%s of %.60q (%d): the library inflated %.60q (%d), %v", name, data, len(data), s, len(s), err)
	}
}

// wantStream holds a stream to the bytes that are wanted, and to what it says.
func wantStream(t *testing.T, name, got, want, data string) {
	t.Helper()
	if got != want {
		t.Errorf("%s of %.60q (%d): %.60x (%d), not %.60x (%d)", name, data, len(data), got, len(got), want, len(want))
	}
	wantSaid(t, name, got, data)
}

// wantAll holds all four streams of data to the models, and tells which of the three the shortest one is.
func wantAll(t *testing.T, data string) int {
	t.Helper()
	want := models(data)
	wantStream(t, "Stored", deflate.Stored(data), want[0], data)
	wantStream(t, "Fixed", deflate.Fixed(data), want[1], data)
	wantStream(t, "Dynamic", deflate.Dynamic(data), want[2], data)
	least := min(len(want[0]), len(want[1]), len(want[2]))
	which := slices.IndexFunc(want, func(s string) bool { return len(s) == least })
	wantDeflate(t, data, want[which])
	return which
}

// wantDeflate holds the result of Deflate to the bytes that are wanted, and to the greatest size.
func wantDeflate(t *testing.T, data, want string) {
	t.Helper()
	got := deflate.Deflate(data)
	wantStream(t, "Deflate", got, want, data)
	if most := len(data) + 5*max(1, (len(data)+65534)/65535); len(got) > most {
		t.Errorf("Deflate of %.60q (%d): %d bytes, at most %d", data, len(data), len(got), most)
	}
}
