package bits_test

import (
	"hash/adler32"
	"hash/crc32"
	"math"
	"strings"
	"testing"

	"vitrine/api"
	"vitrine/bits"
)

// allBytes is each byte once.
func allBytes() string {
	b := make([]byte, 256)
	for i := range b {
		b[i] = byte(i)
	}
	return string(b)
}

// series is a generator of numbers that are spread over all 32 bits, the same ones in each run.
func series(seed uint32) func() uint32 {
	return func() uint32 {
		seed ^= seed << 13
		seed ^= seed >> 17
		seed ^= seed << 5
		return seed
	}
}

func sumInputs() []string {
	return []string{
		"", "a", "\x00", "\x00\x00", "\x80", "\xff", "123456789", "Wikipedia", allBytes(),
		strings.Repeat("\xff", 256), strings.Repeat("\xff", 257), strings.Repeat("\xff", 6000),
		strings.Repeat(allBytes(), 40), strings.Repeat("\x00", 70000),
	}
}

// P1.1: the sums that the document names, and those of inputs of many kinds.
func TestCrc(t *testing.T) {
	if got := bits.Crc("123456789"); got != 0xCBF43926 {
		t.Errorf("Crc of the example: %X", got)
	}
	if got := bits.Crc(""); got != 0 {
		t.Errorf("Crc of nothing: %X", got)
	}
	for _, s := range sumInputs() {
		if got, want := bits.Crc(s), int(crc32.ChecksumIEEE([]byte(s))); got != want {
			t.Errorf("Crc of %d bytes: %X, not %X", len(s), got, want)
		}
	}
}

// P1.1: among the inputs are sums that the modulus changes, both a and b.
func TestAdler(t *testing.T) {
	if got := bits.Adler("Wikipedia"); got != 0x11E60398 {
		t.Errorf("Adler of the example: %X", got)
	}
	if got := bits.Adler(""); got != 1 {
		t.Errorf("Adler of nothing: %X", got)
	}
	for _, s := range sumInputs() {
		if got, want := bits.Adler(s), int(adler32.Checksum([]byte(s))); got != want {
			t.Errorf("Adler of %d bytes: %X, not %X", len(s), got, want)
		}
	}
	// 256 times 255, 240 and the first 1 are 65521: a is 0 here.
	if got := bits.Adler(strings.Repeat("\xff", 256) + "\xf0"); got&0xffff != 0 {
		t.Errorf("a that reaches the modulus: %X", got)
	}
}

// P1.4: two strings of one length that differ in one byte have different sums.
func TestCrcTellsOneByte(t *testing.T) {
	for _, s := range []string{"x", "123456789", strings.Repeat("\x00", 40), strings.Repeat("\xff", 40)} {
		was := bits.Crc(s)
		for i := range s {
			for d := 1; d < 256; d++ {
				b := []byte(s)
				b[i] ^= byte(d)
				if bits.Crc(string(b)) == was {
					t.Fatalf("%q: the same sum with byte %d changed by %d", s, i, d)
				}
			}
		}
	}
}

func wantBits(t *testing.T, r *bits.Reader, n, v int, e api.Errno, left int) {
	t.Helper()
	gotV, gotE := r.Bits(n)
	if gotV != v || gotE != e || r.Left() != left {
		t.Errorf("Bits(%d): %d, %v, %d left; not %d, %v, %d left", n, gotV, gotE, r.Left(), v, e, left)
	}
}

func wantBytes(t *testing.T, r *bits.Reader, n int, s string, e api.Errno, left int) {
	t.Helper()
	gotS, gotE := r.Bytes(n)
	if gotS != s || gotE != e || r.Left() != left {
		t.Errorf("Bytes(%d): %q, %v, %d left; not %q, %v, %d left", n, gotS, gotE, r.Left(), s, e, left)
	}
}

// P1.2: the example of the document.
func TestReaderExample(t *testing.T) {
	r := bits.Read("\xb5\x01")
	wantBits(t, r, 3, 5, api.OK, 13)
	wantBits(t, r, 4, 6, api.OK, 9)
	wantBits(t, r, 0, 0, api.OK, 9)
	wantBytes(t, r, 1, "\x01", api.OK, 0)
}

// P1.2: 0, 1, 24 bits at each place within a byte, of zeros and of ones.
func TestReaderEdgesOfBits(t *testing.T) {
	const data = "\xff\xff\xff\xff"
	for skip := range 9 {
		r := bits.Read(data)
		wantBits(t, r, skip, 1<<skip-1, api.OK, 32-skip)
		wantBits(t, r, 0, 0, api.OK, 32-skip)
		wantBits(t, r, 24, 1<<24-1, api.OK, 8-skip)
		wantBits(t, r, 8-skip, 1<<(8-skip)-1, api.OK, 0)
		wantBits(t, r, 0, 0, api.OK, 0)
		wantBits(t, r, 1, 0, api.ErrEnd, 0)
	}
	r := bits.Read("\x01\x02\x83\xff")
	wantBits(t, r, 24, 0x830201, api.OK, 8)
	r = bits.Read("\x80\x00\x00\x80")
	wantBits(t, r, 7, 0, api.OK, 25)
	wantBits(t, r, 24, 1, api.OK, 1)
	wantBits(t, r, 1, 1, api.OK, 0)
}

// P1.2: numbers of bits that may not be consume nothing, and are told ahead of the end.
func TestReaderWrongBits(t *testing.T) {
	for _, data := range []string{"", "\xa5", "\xa5\x5a\xa5\x5a"} {
		for _, n := range []int{-1, 25, 32, 64, math.MaxInt, math.MinInt} {
			r := bits.Read(data)
			wantBits(t, r, n, 0, api.ErrArg, 8*len(data))
			if data == "" {
				continue
			}
			wantBits(t, r, 3, 5, api.OK, 8*len(data)-3)
			wantBits(t, r, n, 0, api.ErrArg, 8*len(data)-3)
			wantBits(t, r, 5, 20, api.OK, 8*len(data)-8)
		}
	}
}

// P1.2: where the bits end, nothing is consumed, and fewer bits can still be read.
func TestReaderEndOfBits(t *testing.T) {
	r := bits.Read("\xb5")
	wantBits(t, r, 9, 0, api.ErrEnd, 8)
	wantBits(t, r, 24, 0, api.ErrEnd, 8)
	wantBits(t, r, 3, 5, api.OK, 5)
	wantBits(t, r, 6, 0, api.ErrEnd, 5)
	wantBits(t, r, 5, 22, api.OK, 0)
	wantBits(t, r, 1, 0, api.ErrEnd, 0)
	r = bits.Read("\x01\x02\x03")
	wantBits(t, r, 1, 1, api.OK, 23)
	wantBits(t, r, 24, 0, api.ErrEnd, 23)
	wantBits(t, r, 23, 0x030201>>1, api.OK, 0)
}

// P1.2: Bytes discards what is left of a byte, also ahead of ErrEnd, but not of ErrArg.
func TestReaderBytes(t *testing.T) {
	r := bits.Read("abcdef")
	wantBytes(t, r, 0, "", api.OK, 48)
	wantBytes(t, r, 2, "ab", api.OK, 32)
	wantBits(t, r, 1, 1, api.OK, 31)
	wantBytes(t, r, -1, "", api.ErrArg, 31)
	wantBytes(t, r, math.MinInt, "", api.ErrArg, 31)
	wantBytes(t, r, 0, "", api.OK, 24)
	wantBits(t, r, 8, 'd', api.OK, 16)
	wantBytes(t, r, 3, "", api.ErrEnd, 16)
	wantBits(t, r, 7, 'e', api.OK, 9)
	wantBytes(t, r, 2, "", api.ErrEnd, 8)
	wantBytes(t, r, math.MaxInt, "", api.ErrEnd, 8)
	wantBytes(t, r, 1, "f", api.OK, 0)
	wantBytes(t, r, 0, "", api.OK, 0)
	wantBytes(t, r, 1, "", api.ErrEnd, 0)
	wantBytes(t, r, -1, "", api.ErrArg, 0)
}

// P1.2: the last byte, of which a part is consumed, is discarded as well.
func TestReaderBytesBehindLastBits(t *testing.T) {
	r := bits.Read("\xff")
	wantBits(t, r, 1, 1, api.OK, 7)
	wantBytes(t, r, 1, "", api.ErrEnd, 0)
	r = bits.Read("\xff")
	wantBits(t, r, 7, 127, api.OK, 1)
	wantBytes(t, r, 0, "", api.OK, 0)
	r = bits.Read("\xffx")
	wantBits(t, r, 8, 255, api.OK, 8)
	wantBytes(t, r, 1, "x", api.OK, 0)
}

// P1.2: readers of nothing, and no reader.
func TestReaderOfNothing(t *testing.T) {
	r := bits.Read("")
	if r == nil {
		t.Fatal("no reader of the empty string")
	}
	wantBits(t, r, 0, 0, api.OK, 0)
	wantBits(t, r, 1, 0, api.ErrEnd, 0)
	wantBytes(t, r, 0, "", api.OK, 0)
	wantBytes(t, r, 1, "", api.ErrEnd, 0)
	r = nil
	for _, n := range []int{-1, 0, 1, 24, 25} {
		wantBits(t, r, n, 0, api.ErrNil, 0)
		wantBytes(t, r, n, "", api.ErrNil, 0)
	}
}

// P1.2: readers of the same bytes do not disturb each other.
func TestReadersAreApart(t *testing.T) {
	const data = "\x12\x34\x56"
	a, b := bits.Read(data), bits.Read(data)
	wantBits(t, a, 12, 0x412, api.OK, 12)
	wantBits(t, b, 4, 2, api.OK, 20)
	wantBytes(t, a, 1, "\x56", api.OK, 0)
	wantBytes(t, b, 2, "\x34\x56", api.OK, 0)
}

func wantText(t *testing.T, w *bits.Writer, want string) {
	t.Helper()
	for range 2 {
		if got := w.Text(); got != want {
			t.Errorf("Text: % x, not % x", got, want)
		}
	}
}

// P1.3: the example of the document.
func TestWriterExample(t *testing.T) {
	w := bits.New()
	w.Bits(5, 3)
	w.Bits(6, 4)
	w.Bytes("x")
	wantText(t, w, "\x35\x78")
}

// P1.3: 0, 1 and 24 bits at each place within a byte; only the lowest bits of a number count.
func TestWriterEdgesOfBits(t *testing.T) {
	for skip := range 9 {
		w := bits.New()
		w.Bits(0, skip)
		w.Bits(-1, 0)
		w.Bits(-1, 24)
		ones := uint32(1<<24-1) << skip
		want := []byte{byte(ones), byte(ones >> 8), byte(ones >> 16), byte(ones >> 24)}
		wantText(t, w, string(want[:(skip+24+7)/8]))
	}
	w := bits.New()
	w.Bits(0x7fff830201, 24)
	w.Bits(2, 1)
	w.Bits(math.MinInt+1, 1)
	wantText(t, w, "\x01\x02\x83\x02")
}

// P1.3: numbers of bits that may not be write nothing.
func TestWriterWrongBits(t *testing.T) {
	w := bits.New()
	for _, n := range []int{-1, 25, 32, 64, math.MaxInt, math.MinInt} {
		w.Bits(-1, n)
	}
	wantText(t, w, "")
	w.Bits(1, 2)
	for _, n := range []int{-1, 25, 32, 64, math.MaxInt, math.MinInt} {
		w.Bits(-1, n)
	}
	w.Bits(1, 1)
	wantText(t, w, "\x05")
}

// P1.3: Bytes goes to a whole byte with zero bits, also for the empty string, and not further.
func TestWriterBytes(t *testing.T) {
	w := bits.New()
	w.Bytes("")
	wantText(t, w, "")
	w.Bytes("\xff\x80")
	wantText(t, w, "\xff\x80")
	w.Bits(1, 1)
	w.Bytes("")
	w.Bytes("")
	wantText(t, w, "\xff\x80\x01")
	w.Bits(1, 1)
	w.Bits(127, 7)
	w.Bytes("a")
	w.Bits(255, 7)
	w.Bytes("b")
	wantText(t, w, "\xff\x80\x01\xffa\x7fb")
}

// P1.3: Text changes nothing: what is written behind it goes on within the same byte.
func TestWriterTextChangesNothing(t *testing.T) {
	w := bits.New()
	wantText(t, w, "")
	w.Bits(1, 1)
	wantText(t, w, "\x01")
	was := w.Text()
	w.Bits(3, 2)
	wantText(t, w, "\x07")
	w.Bits(1, 6)
	wantText(t, w, "\x0f\x00")
	w.Bits(1, 1)
	wantText(t, w, "\x0f\x02")
	if was != "\x01" {
		t.Errorf("an earlier text is changed: % x", was)
	}
}

// P1.3: no writer takes anything.
func TestNoWriter(t *testing.T) {
	var w *bits.Writer
	w.Bits(1, 1)
	w.Bits(1, -1)
	w.Bytes("x")
	wantText(t, w, "")
}

// P1.3: writers do not disturb each other.
func TestWritersAreApart(t *testing.T) {
	a, b := bits.New(), bits.New()
	if a == nil || b == nil {
		t.Fatal("no writer")
	}
	a.Bits(1, 3)
	b.Bytes("b")
	a.Bytes("a")
	wantText(t, a, "\x01a")
	wantText(t, b, "b")
}

// step is one call: of Bits with n bits, or of Bytes if n is negative.
type step struct {
	n, v int
	s    string
}

func steps(seed uint32, most int) []step {
	next := series(seed)
	list := make([]step, next()%uint32(most))
	for i := range list {
		if next()%5 == 0 {
			list[i] = step{n: -1, s: allBytes()[next()%256:]}
			list[i].s = list[i].s[:next()%4%uint32(len(list[i].s)+1)]
			continue
		}
		n := int(next() % 25)
		list[i] = step{n: n, v: int(next()) & (1<<n - 1)}
	}
	return list
}

// packed is the bytes of bits that are listed one by one, as the document words it.
func packed(list []int) string {
	out := make([]byte, (len(list)+7)/8)
	for i, bit := range list {
		out[i/8] |= byte(bit << (i % 8))
	}
	return string(out)
}

// P1.3, P1.4: what is written is as the document words it bit by bit, and is read by the same calls.
func TestWrittenIsRead(t *testing.T) {
	for seed := range uint32(300) {
		calls := steps(seed+1, 60)
		w := bits.New()
		var list []int
		for _, c := range calls {
			if c.n >= 0 {
				w.Bits(c.v, c.n)
				for i := range c.n {
					list = append(list, c.v>>i&1)
				}
				continue
			}
			w.Bytes(c.s)
			list = append(list, make([]int, (8-len(list)%8)%8)...)
			for i := range len(c.s) {
				for j := range 8 {
					list = append(list, int(c.s[i])>>j&1)
				}
			}
		}
		wantText(t, w, packed(list))
		readBack(t, w.Text(), calls)
	}
}

func readBack(t *testing.T, text string, calls []step) {
	t.Helper()
	r := bits.Read(text)
	left := 8 * len(text)
	for _, c := range calls {
		if c.n >= 0 {
			left -= c.n
			wantBits(t, r, c.n, c.v, api.OK, left)
			continue
		}
		left -= left%8 + 8*len(c.s)
		wantBytes(t, r, len(c.s), c.s, api.OK, left)
	}
	if left > 7 {
		t.Errorf("%d bits left behind all that was written", left)
	}
	wantBits(t, r, left, 0, api.OK, 0)
}
