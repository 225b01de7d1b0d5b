package inflate_test

import (
	"bytes"
	"compress/flate"
	"math/rand"
	"strconv"
	"strings"
	"testing"

	"vitrine/api"
	"vitrine/huff"
	"vitrine/inflate"
)

// model follows the words of the chapter bit by bit. Its methods panic with the error.
type model struct {
	data string
	at   int // bits
	out  string
	most int
}

// modelled is what the chapter says of data.
func modelled(data string, most int) (out string, n int, e api.Errno) {
	m := &model{data: data, most: most}
	defer func() {
		if r := recover(); r != nil {
			out, n, e = "", 0, r.(api.Errno)
		}
	}()
	for !m.block() {
	}
	return m.out, (m.at + 7) / 8, api.OK
}

func fail(is bool, e api.Errno) {
	if is {
		panic(e)
	}
}

func (m *model) number(n int) int {
	fail(m.at+n > 8*len(m.data), api.ErrEnd)
	v := 0
	for i := range n {
		v += int(m.data[m.at/8]) >> (m.at % 8) % 2 << i
		m.at++
	}
	return v
}

// words is the symbols by their code words, as texts of 0 and 1.
func words(lens []int) map[string]int {
	codes, e := huff.Codes(lens...)
	fail(e != api.OK, e)
	list := map[string]int{}
	for symbol, n := range lens {
		if n > 0 {
			word := "000000000000000" + strconv.FormatInt(int64(codes[symbol]), 2)
			list[word[len(word)-n:]] = symbol
		}
	}
	return list
}

func (m *model) symbol(list map[string]int) int {
	most := 15
	if len(list) < 2 {
		most = len(list)
	}
	word := ""
	for len(word) < most {
		word += strconv.Itoa(m.number(1))
		if symbol, ok := list[word]; ok {
			return symbol
		}
	}
	panic(api.ErrCode)
}

// block tells whether it was the last one.
func (m *model) block() bool {
	head := m.number(1)
	head += 2 * m.number(1)
	head += 4 * m.number(1)
	switch head / 2 {
	case 0:
		m.stored()
	case 1:
		m.symbols(words(fixedLits()), words(some(32, 5)))
	case 2:
		m.symbols(m.codes())
	case 3:
		panic(api.ErrBlock)
	}
	return head%2 == 1
}

func (m *model) stored() {
	m.at = (m.at + 7) / 8 * 8
	n := m.number(16)
	fail(m.number(16) != 65535-n, api.ErrStored)
	var b []byte
	for range n {
		b = append(b, byte(m.number(8)))
	}
	fail(len(m.out)+n > m.most, api.ErrBig)
	m.out += string(b)
}

func (m *model) codes() (map[string]int, map[string]int) {
	lits := 257 + m.number(5)
	dists := 1 + m.number(5)
	told := 4 + m.number(4)
	small := make([]int, 19)
	for _, symbol := range []int{16, 17, 18, 0, 8, 7, 9, 6, 10, 5, 11, 4, 12, 3, 13, 2, 14, 1, 15}[:told] {
		small[symbol] = m.number(3)
	}
	list := words(small)
	var lens []int
	for len(lens) < lits+dists {
		symbol := m.symbol(list)
		length, times := 0, 1
		switch symbol {
		case 16:
			fail(len(lens) == 0, api.ErrCode)
			length, times = lens[len(lens)-1], 3+m.number(2)
		case 17:
			times = 3 + m.number(3)
		case 18:
			times = 11 + m.number(7)
		default:
			length = symbol
		}
		fail(len(lens)+times > lits+dists, api.ErrCode)
		lens = append(lens, some(times, length)...)
	}
	return words(lens[:lits]), words(lens[lits:])
}

func (m *model) symbols(lits, dists map[string]int) {
	for {
		symbol := m.symbol(lits)
		if symbol == 256 {
			return
		}
		if symbol < 256 {
			fail(len(m.out)+1 > m.most, api.ErrBig)
			m.out += string([]byte{byte(symbol)})
			continue
		}
		fail(symbol > 285, api.ErrCode)
		length := 258
		if symbol < 285 {
			least, bits := 3, 0
			for s := 257; s < symbol; s++ {
				least += 1 << bits
				bits = max(0, (s+1-261)/4)
			}
			length = least + m.number(bits)
		}
		symbol = m.symbol(dists)
		fail(symbol > 29, api.ErrCode)
		least, bits := 1, 0
		for s := 0; s < symbol; s++ {
			least += 1 << bits
			bits = max(0, (s+1-2)/2)
		}
		far := least + m.number(bits)
		fail(far > len(m.out), api.ErrFar)
		fail(len(m.out)+length > m.most, api.ErrBig)
		m.out = repeated(m.out, length, far)
	}
}

// wantModel holds the results against the model, and tells the error.
func wantModel(t *testing.T, name, data string, most int) api.Errno {
	t.Helper()
	want, n, e := modelled(data, most)
	gotS, gotN, gotE := inflate.Inflate(data, most)
	if gotS != want || gotN != n || gotE != e {
		t.Fatalf("%s, at most %d: % x: %q, %d, %v; not %q, %d, %v", name, most, data, gotS, gotN, gotE, want, n, e)
	}
	return e
}

// randomText has few different bytes, or many, so that it has matches, or few.
func randomText(rnd *rand.Rand, most int) string {
	b := make([]byte, rnd.Intn(most+1))
	kinds := 1 + rnd.Intn(256)
	for i := range b {
		b[i] = byte(rnd.Intn(kinds))
	}
	return string(b)
}

// randomSymbols is those of a block with words for some symbols; now and then they are wrong ones.
func randomSymbols(rnd *rand.Rand, produced int, lits, dists []int) ([]coded, int) {
	var list []coded
	for range rnd.Intn(40) {
		symbol := rnd.Intn(len(lits))
		if lits[symbol] == 0 || symbol == 256 || symbol > 285 && rnd.Intn(20) > 0 {
			continue
		}
		if symbol < 256 {
			list = append(list, lit(symbol))
			produced++
			continue
		}
		d := rnd.Intn(len(dists))
		least := 1 + d
		n := max(0, d/2-1)
		if d > 3 {
			least = (2+d%2)<<n + 1
		}
		if dists[d] == 0 || (least > produced || d > 29) && rnd.Intn(20) > 0 {
			continue
		}
		extra := 0
		if symbol < 285 {
			extra = max(0, (symbol-261)/4)
		}
		v := 0
		if produced > least {
			v = rnd.Intn(min(produced-least, 1<<n-1) + 1)
		}
		list = append(list, litMore(symbol, rnd.Int(), extra), distMore(d, v, n))
		produced += 3
	}
	if lits[256] > 0 {
		list = append(list, end)
	}
	return list, produced
}

// randomLens is complete lengths, mostly; now and then ones that may not be.
func randomLens(rnd *rand.Rand, least, n int) []int {
	weights := make([]int, n)
	for range 1 + rnd.Intn(2*n) {
		weights[rnd.Intn(n)] = 1 << rnd.Intn(20)
	}
	if n > 256 {
		weights[256] = 1 + rnd.Intn(100)
	}
	if n < 33 && rnd.Intn(4) == 0 {
		clear(weights)
	}
	lens, _ := huff.Limit(15, weights...)
	if rnd.Intn(20) == 0 {
		lens[rnd.Intn(n)] = rnd.Intn(16)
	}
	return lens
}

// randomSmall is small symbols that tell lengths, with some of the repetitions that are possible, and now and then a wrong one.
func randomSmall(rnd *rand.Rand, lens []int) []coded {
	var list []coded
	for i := 0; i < len(lens); {
		same := 1
		for i+same < len(lens) && lens[i+same] == lens[i] {
			same++
		}
		n := 1
		switch {
		case rnd.Intn(300) == 0:
			list = append(list, again(rnd.Int()))
		case lens[i] == 0 && same > 10 && rnd.Intn(8) > 0:
			n = 11 + rnd.Intn(min(same, 138)-10)
			list = append(list, manyZeros(n-11))
		case lens[i] == 0 && same > 2 && rnd.Intn(4) > 0:
			n = 3 + rnd.Intn(min(same, 10)-2)
			list = append(list, zeros(n-3))
		case i > 0 && lens[i-1] == lens[i] && same > 2 && rnd.Intn(4) > 0:
			n = 3 + rnd.Intn(min(same, 6)-2)
			list = append(list, again(n-3))
		default:
			list = append(list, lit(lens[i]))
		}
		i += n
	}
	return list
}

// randomDynamic is a dynamic block with random codes.
func randomDynamic(rnd *rand.Rand, last, produced int) (part, int) {
	lits, dists := randomLens(rnd, 257, 257+rnd.Intn(32)), randomLens(rnd, 1, 1+rnd.Intn(32))
	small := randomSmall(rnd, append(append([]int(nil), lits...), dists...))
	often := make([]int, 19)
	for _, c := range small {
		often[c.symbol]++
	}
	lens, _ := huff.Limit(7, often...)
	told := 19
	for told > 4 && lens[order[told-1]] == 0 && rnd.Intn(10) > 0 {
		told--
	}
	p := all(head(last, 2), counts(len(lits), len(dists), told), smallLens(lens, told), body(lens, nil, small...))
	if huff.Check(lits...) != api.OK || huff.Check(dists...) != api.OK {
		return p, produced
	}
	list, produced := randomSymbols(rnd, produced, lits, dists)
	return all(p, body(lits, dists, list...)), produced
}

// randomStream is a stream of a few blocks.
func randomStream(rnd *rand.Rand) string {
	var parts []part
	produced := 0
	for more := rnd.Intn(4); more >= 0; more-- {
		last := 0
		if more == 0 {
			last = 1
		}
		var p part
		switch rnd.Intn(4) {
		case 0:
			s := randomText(rnd, 50)
			p = stored(last, s)
			produced += len(s)
		case 1:
			var list []coded
			list, produced = randomSymbols(rnd, produced, fixedLits(), some(32, 5))
			p = fixed(last, list...)
		default:
			p, produced = randomDynamic(rnd, last, produced)
		}
		parts = append(parts, p)
	}
	return stream(parts...)
}

// damaged is data with a bit changed, bytes cut off, or bytes behind it.
func damaged(rnd *rand.Rand, data string) string {
	b := []byte(data)
	switch rnd.Intn(4) {
	case 0:
		b = b[:rnd.Intn(len(b)+1)]
	case 1:
		b = append(b, randomText(rnd, 9)...)
	default:
		for range 1 + rnd.Intn(2) {
			b[rnd.Intn(len(b))] ^= 1 << rnd.Intn(8)
		}
	}
	return string(b)
}

// P3.1, P3.2: streams of all kinds of blocks, whole and damaged, with much room and with little.
func TestRandomStreams(t *testing.T) {
	rnd := rand.New(rand.NewSource(1))
	seen := map[api.Errno]int{}
	for range 1000 {
		data := randomStream(rnd)
		seen[wantModel(t, "whole", data, big)]++
		s, _, _ := modelled(data, big)
		wantModel(t, "with less room", data, rnd.Intn(len(s)+2)-1)
		for range 3 {
			bad := damaged(rnd, data)
			seen[wantModel(t, "damaged", bad, big)]++
			seen[wantModel(t, "damaged, with less room", bad, rnd.Intn(len(s)+20))]++
		}
	}
	for _, e := range []api.Errno{api.OK, api.ErrEnd, api.ErrBlock, api.ErrStored, api.ErrOver, api.ErrLess, api.ErrCode, api.ErrFar, api.ErrBig} {
		if seen[e] < 3 {
			t.Errorf("only %d of the streams had %v", seen[e], e)
		}
	}
}

// P3.1: bytes that are nobody's stream.
func TestRandomBytes(t *testing.T) {
	rnd := rand.New(rand.NewSource(2))
	for range 3000 {
		b := make([]byte, rnd.Intn(60))
		rnd.Read(b)
		wantModel(t, "random bytes", string(b), rnd.Intn(100))
	}
	for first := range 256 {
		for second := first % 7; second < 256; second += 7 {
			wantModel(t, "two bytes", string([]byte{byte(first), byte(second)}), 1)
		}
	}
}

func deflated(t *testing.T, level int, parts ...string) string {
	t.Helper()
	var b bytes.Buffer
	w, err := flate.NewWriter(&b, level)
	if err != nil {
		t.Fatal(err)
	}
	for _, s := range parts {
		w.Write([]byte(s))
		w.Flush()
	}
	w.Close()
	return b.String()
}

// P3.1, P3.2: streams that another program makes, of all its levels; what is behind them makes no difference.
func TestOthersStreams(t *testing.T) {
	rnd := rand.New(rand.NewSource(3))
	inputs := []string{"", "a", strings.Repeat("a", 100000), noise(70000), strings.Repeat(noise(300), 200), strings.Repeat("vitrine, an archive of PNGs on replicas; ", 500)}
	for range 40 {
		inputs = append(inputs, randomText(rnd, 5000))
	}
	for level := flate.HuffmanOnly; level <= flate.BestCompression; level++ {
		for i, s := range inputs {
			half := rnd.Intn(len(s) + 1)
			for _, data := range []string{deflated(t, level, s), deflated(t, level, s[:half], s[half:])} {
				name := "input " + strconv.Itoa(i) + " at level " + strconv.Itoa(level)
				check(t, name, data, len(s), s, len(data), api.OK)
				check(t, name+" and more", data+noise(20), big, s, len(data), api.OK)
				check(t, name+" cut off", data[:len(data)-1], len(s), "", 0, api.ErrEnd)
				check(t, name+" cut off anywhere", data[:rnd.Intn(len(data))], big, "", 0, api.ErrEnd)
				if s != "" {
					check(t, name+" without room", data, rnd.Intn(len(s)), "", 0, api.ErrBig)
				}
			}
		}
	}
}
