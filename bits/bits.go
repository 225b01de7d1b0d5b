// Package bits is layer 1: streams of bits, and checksums of bytes.
package bits

import "vitrine/api"

const (
	// mostBits is the greatest number of bits that one call of Bits takes:
	// together with the bits of a byte that is used in part they fit into 31 bits.
	mostBits = 24

	crcPoly  = 0xEDB88320
	adlerMod = 65521
)

// Crc is the CRC-32 of bytes.
func Crc(data string) int {
	c := ^uint32(0)
	for i := range len(data) {
		c ^= uint32(data[i])
		for range 8 {
			odd := c&1 == 1
			c >>= 1
			if odd {
				c ^= crcPoly
			}
		}
	}
	return int(^c)
}

// Adler is the Adler-32 of bytes.
func Adler(data string) int {
	a, b := 1, 0
	for i := range len(data) {
		a = (a + int(data[i])) % adlerMod
		b = (b + a) % adlerMod
	}
	return b<<16 + a
}

// Reader takes bits off bytes, the lowest one of each byte first.
type Reader struct {
	data []byte // the bytes that still have bits
	used int    // how many bits of the first of them are consumed, 0 to 7
}

// Read is a reader of all bits of bytes.
func Read(data string) *Reader { return &Reader{data: []byte(data)} }

// Bits consumes the next n bits and returns the number that they are.
func (r *Reader) Bits(n int) (int, api.Errno) {
	switch {
	case r == nil:
		return 0, api.ErrNil
	case n < 0 || n > mostBits:
		return 0, api.ErrArg
	case n > r.Left():
		return 0, api.ErrEnd
	}
	v := 0
	end := r.used + n
	for i := range (end + 7) / 8 {
		v |= int(r.data[i]) << (8 * i)
	}
	v = v >> r.used & (1<<n - 1)
	r.data = r.data[end/8:]
	r.used = end % 8
	return v, api.OK
}

// Bytes goes to the next whole byte, consumes the next n bytes and returns them.
func (r *Reader) Bytes(n int) (string, api.Errno) {
	switch {
	case r == nil:
		return "", api.ErrNil
	case n < 0:
		return "", api.ErrArg
	}
	if r.used > 0 {
		r.data = r.data[1:]
		r.used = 0
	}
	if n > len(r.data) {
		return "", api.ErrEnd
	}
	s := string(r.data[:n])
	r.data = r.data[n:]
	return s, api.OK
}

// Left is how many bits remain.
func (r *Reader) Left() int {
	if r == nil {
		return 0
	}
	return 8*len(r.data) - r.used
}

// Writer appends bits, the lowest one of each byte first.
type Writer struct {
	whole []byte // the bytes that are full
	part  int    // the bits behind them
	used  int    // how many these are, 0 to 7
}

// New is a writer that contains no bits.
func New() *Writer { return &Writer{} }

// Bits appends the n lowest bits of a number.
func (w *Writer) Bits(v, n int) {
	if w == nil || n < 0 || n > mostBits {
		return
	}
	w.part |= v & (1<<n - 1) << w.used
	w.used += n
	for range w.used / 8 {
		w.whole = append(w.whole, byte(w.part))
		w.part >>= 8
	}
	w.used %= 8
}

// Bytes appends zero bits up to a whole byte, and then bytes.
func (w *Writer) Bytes(s string) {
	if w == nil {
		return
	}
	if w.used > 0 {
		w.Bits(0, 8-w.used)
	}
	w.whole = append(w.whole, s...)
}

// Text is all that was written, with zero bits up to a whole byte.
func (w *Writer) Text() string {
	if w == nil {
		return ""
	}
	text := string(w.whole)
	if w.used > 0 {
		text += string([]byte{byte(w.part)})
	}
	return text
}
