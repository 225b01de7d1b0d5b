package deflate_test

import (
	"math/rand"
	"slices"
	"strings"
	"testing"

	"vitrine/huff"
)

// P5.2 to P5.5: all texts of two letters and of three, short ones.
func TestAllShort(t *testing.T) {
	for _, letters := range []string{"ab", "x\xf0\x00"} {
		texts := []string{""}
		for range 12 / len(letters) {
			var longer []string
			for _, s := range texts {
				for i := range len(letters) {
					longer = append(longer, s+letters[i:i+1])
				}
			}
			for _, s := range longer {
				wantAll(t, s)
			}
			texts = longer
		}
	}
}

// randomText has few or many different bytes, of equal or of unequal numbers, and repeats parts of itself.
func randomText(rnd *rand.Rand, most int) string {
	var b strings.Builder
	letters := 1 + rnd.Intn(1<<rnd.Intn(9))
	if rnd.Intn(8) == 0 {
		letters = 256
	}
	first := rnd.Intn(256)
	steep := rnd.Intn(2) == 0
	repeats := rnd.Intn(4)
	for n := rnd.Intn(most + 1); b.Len() < n; {
		if b.Len() > 0 && rnd.Intn(40) < repeats {
			from := max(0, b.Len()-1-rnd.Intn(700))
			b.WriteString(b.String()[from:min(b.Len(), from+1+rnd.Intn(300))])
			continue
		}
		i := rnd.Intn(letters)
		if steep {
			i = rnd.Intn(1 + rnd.Intn(1+i))
		}
		b.WriteByte(byte(first + i))
	}
	return b.String()
}

// P5.2 to P5.5: random texts, of which each of the three streams is the shortest one now and then.
func TestRandom(t *testing.T) {
	rnd := rand.New(rand.NewSource(51))
	seen := [3]int{}
	for i := range 1200 {
		most := 300
		if i%10 == 0 {
			most = 6000
		}
		seen[wantAll(t, randomText(rnd, most))]++
	}
	for which, n := range seen {
		if n < 20 {
			t.Errorf("only %d of the texts have %d as the shortest one", n, which)
		}
	}
}

// steepText has bytes of which each occurs half as often as the one before it, and so many matches that the rarest ones have long code words.
func steepText() string {
	rnd := rand.New(rand.NewSource(52))
	b := make([]byte, 200000)
	for i := range b {
		b[i] = byte(rnd.Intn(4))
		for c := range 20 {
			if rnd.Intn(1<<20) < 1<<c {
				b[i] = byte(100 + c)
				break
			}
		}
	}
	return string(b)
}

// P5.3: code words of the greatest length, 15 bits.
func TestLongWords(t *testing.T) {
	data := steepText()
	lits, _ := dynamicLens(symbols(data))
	if most := slices.Max(lits); most != 15 {
		t.Errorf("the greatest length is %d", most)
	}
	wantAll(t, data)
}

// P5.3: small codes whose code words would have more than 7 bits without that limit.
func TestLongSmallWords(t *testing.T) {
	rnd := rand.New(rand.NewSource(53))
	found := 0
	for range 2000 {
		data := randomText(rnd, 4000)
		lits, dists := dynamicLens(symbols(data))
		counts := make([]int, 19)
		for _, run := range runsModel(slices.Concat(lits, dists)) {
			counts[run.Code]++
		}
		if lens, _ := huff.Limit(8, counts...); slices.Max(lens) == 8 {
			found++
			wantAll(t, data)
		}
	}
	if found == 0 {
		t.Error("no text has such a small code")
	}
}

// P5.3: a run goes on from the literal and length symbols to the distance symbols. Only one of 16 can: the former end with a length that is not 0.
func TestRunsAcross(t *testing.T) {
	rnd := rand.New(rand.NewSource(54))
	across := 0
	for range 500 {
		data := randomText(rnd, 1000)
		lits, dists := dynamicLens(symbols(data))
		apart := slices.Concat(runsModel(lits), runsModel(dists))
		if !slices.Equal(runsModel(slices.Concat(lits, dists)), apart) {
			across++
			wantAll(t, data)
		}
	}
	if across < 5 {
		t.Errorf("only %d of the texts have such a run", across)
	}
}
