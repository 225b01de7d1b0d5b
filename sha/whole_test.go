package sha_test

import (
	"bytes"
	"math/rand"
	"strings"
	"sync"
	"testing"
	"unsafe"

	"vitrine/sha"
)

// P14.1, P14.2, P14.3: random strings; no two of them have the same digest.
func TestRandom(t *testing.T) {
	rnd := rand.New(rand.NewSource(147))
	seen := map[string]string{}
	for range 5000 {
		b := make([]byte, rnd.Intn(1<<rnd.Intn(11)))
		rnd.Read(b)
		data := string(b)
		wantModel(t, data)
		wantHex(t, data, words(data))
		sum := sha.Sum(data)
		if before, ok := seen[sum]; ok && before != data {
			t.Errorf("the same digest of %q and of %q", before, data)
		}
		seen[sum] = data
	}
}

// P14.3: 32 bytes of each string, whatever they are: also digests with bytes 0 ahead or at their end.
func TestSize(t *testing.T) {
	ahead, behind := 0, 0
	for seed := range 5000 {
		sum := sha.Sum(noise(seed, seed%130))
		if len(sum) != 32 || len(sha.Hex(sum)) != 64 {
			t.Fatalf("%d bytes of string %d", len(sum), seed)
		}
		if strings.HasPrefix(sum, "\x00") {
			ahead++
		}
		if strings.HasSuffix(sum, "\x00") {
			behind++
		}
	}
	if ahead == 0 || behind == 0 {
		t.Errorf("%d with a byte 0 ahead, %d with one at the end", ahead, behind)
	}
}

// P14.1: digests of digests, again and again.
func TestSumOfSums(t *testing.T) {
	sum := ""
	for range 1000 {
		wantModel(t, sum)
		sum = sha.Sum(sum)
	}
}

// R2: a string that is passed in is not changed, nor is the memory around it.
func TestNothingIsChanged(t *testing.T) {
	for _, n := range edges() {
		memory := []byte(noise(n, n+200))
		before := bytes.Clone(memory)
		data := unsafe.String(&memory[100], n)
		sum, digits := sha.Sum(data), sha.Hex(data)
		if !bytes.Equal(memory, before) {
			t.Errorf("%d bytes: the memory is changed", n)
		}
		clear(memory) // what was returned may not hang on it
		wantSum(t, string(before[100:100+n]), words(sum))
		wantHex(t, string(before[100:100+n]), digits)
	}
}

// R2: what Sum and Hex return is new.
func TestResultsAreNew(t *testing.T) {
	place := func(s string) uintptr { return uintptr(unsafe.Pointer(unsafe.StringData(s))) }
	shared := func(s, text string) bool {
		return place(s) < place(text)+uintptr(len(text)) && place(text) < place(s)+uintptr(len(s))
	}
	for _, data := range []string{"", "a", "0123456789abcdef", noise(1, 32), noise(2, 64), noise(3, 200)} {
		sum, digits := sha.Sum(data), sha.Hex(data)
		again, digitsAgain := sha.Sum(data), sha.Hex(data)
		if shared(sum, data) || shared(digits, data) || shared(sum, again) || shared(digits, digitsAgain) {
			t.Errorf("%.20q: a result is a part of something else", data)
		}
	}
}

// R3: a call does not depend on those before it.
func TestCallsAreApart(t *testing.T) {
	for range 3 {
		for _, n := range edges() {
			wantModel(t, noise(n, n))
			wantHex(t, noise(n, n), words(noise(n, n)))
			wantModel(t, "")
			wantHex(t, "", "")
		}
	}
}

// R3: nor on those at the same time.
func TestCallsAtOnce(t *testing.T) {
	var group sync.WaitGroup
	for seed := range 8 {
		group.Go(func() {
			for n := range 200 {
				wantLibrary(t, noise(seed, n))
				wantHex(t, noise(seed, n), words(noise(seed, n)))
			}
		})
	}
	group.Wait()
}
