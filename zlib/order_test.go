package zlib_test

import (
	"encoding/binary"
	"hash/adler32"
	"math/rand"
	"testing"

	"vitrine/api"
	"vitrine/deflate"
	"vitrine/inflate"
	"vitrine/zlib"
)

// part is some bytes and the error that they are, if one.
type part struct {
	bytes string
	e     api.Errno
}

// P6.2: of several errors that apply, the first one: all heads with all streams with all that can be behind a stream.
func TestOrder(t *testing.T) {
	streams := []broken{{"right", deflate.Fixed("abc"), 3, api.OK}}
	streams = append(streams, brokenStreams()...)
	right := sum("abc")
	for _, head := range []part{{"\x78\x01", api.OK}, {"\x78\x02", api.ErrZlib}, {"\x79\x18", api.ErrZlib}, {"\x88\x1c", api.ErrZlib}, {"\x78\x20", api.ErrZlib}, {"\xff\xff", api.ErrZlib}} {
		for _, stream := range streams {
			for _, tail := range []part{
				{"", api.ErrEnd}, {right[:3], api.ErrEnd}, {"\x00\x00\x00", api.ErrEnd},
				{"\x00\x00\x00\x01", api.ErrSum}, {right[:3] + "\x00", api.ErrSum},
				{"\x00\x00\x00\x01\x00", api.ErrSum}, {right[1:] + right, api.ErrSum},
				{right + "\x00", api.ErrMore}, {right + right, api.ErrMore},
				{right, api.OK},
			} {
				data := head.bytes + stream.stream + tail.bytes
				want, text := head.e, ""
				if want == api.OK {
					want = stream.want
				}
				if want == api.OK {
					want = tail.e
				}
				if want == api.OK {
					text = "abc"
				}
				check(t, stream.name, data, stream.most, text, want)
			}
		}
	}
}

// P6.2: what is too big is told although the stream is cut off behind it, and what is cut off ahead of it is not.
func TestBigOrEnd(t *testing.T) {
	stream := deflate.Fixed("abc")
	wantError(t, "cut off behind it", "\x78\x01"+stream[:len(stream)-1], 2, api.ErrBig)
	wantError(t, "cut off ahead of it", "\x78\x01"+stream[:2], 2, api.ErrEnd)
	wantError(t, "stored bytes are missing", "\x78\x01"+deflate.Stored("abc")[:7], 2, api.ErrEnd)
}

// unwrapModel is the chapter's words, one after the other.
func unwrapModel(data string, most int) (string, api.Errno) {
	if len(data) < 2 {
		return "", api.ErrEnd
	}
	number := binary.BigEndian.Uint16([]byte(data))
	if number>>8&15 != 8 || number>>12 > 7 || number%31 != 0 || number>>5&1 == 1 {
		return "", api.ErrZlib
	}
	text, n, e := inflate.Inflate(data[2:], most)
	if e != api.OK {
		return "", e
	}
	tail := []byte(data[2+n:])
	if len(tail) < 4 {
		return "", api.ErrEnd
	}
	if binary.BigEndian.Uint32(tail) != adler32.Checksum([]byte(text)) {
		return "", api.ErrSum
	}
	if len(tail) > 4 {
		return "", api.ErrMore
	}
	return text, api.OK
}

// wantModel holds Unwrap against the model, and returns the error.
func wantModel(t *testing.T, data string, most int) api.Errno {
	t.Helper()
	want, e := unwrapModel(data, most)
	check(t, "another one than the model's", data, most, want, e)
	return e
}

// P6.2: each bit of some streams changed, with room enough and without.
func TestEachBit(t *testing.T) {
	for _, text := range texts() {
		if len(text) > 400 {
			continue
		}
		for _, stream := range streams(text) {
			data := whole(stream, text)
			for bit := range 8 * len(data) {
				for _, most := range []int{big, len(text), len(text) - 1} {
					wantModel(t, flipped(data, bit), most)
				}
			}
		}
	}
}

// damaged is data with some bytes changed, taken out or put in.
func damaged(rnd *rand.Rand, data string) string {
	for range rnd.Intn(4) {
		at := rnd.Intn(len(data) + 1)
		switch rnd.Intn(4) {
		case 0:
			data = data[:at]
		case 1:
			data = data[:at] + string([]byte{byte(rnd.Intn(256))}) + data[at:]
		case 2:
			data = data[:at] + data[min(at+1, len(data)):]
		default:
			data = data[:at] + string([]byte{byte(rnd.Intn(256))}) + data[min(at+1, len(data)):]
		}
	}
	return data
}

// P6.2: streams that are damaged at random, which have all errors now and then.
func TestDamaged(t *testing.T) {
	rnd := rand.New(rand.NewSource(61))
	list := texts()
	seen := map[api.Errno]int{}
	for range 40000 {
		text := list[rnd.Intn(len(list))]
		text = text[:min(len(text), 60)]
		data := whole(streams(text)[rnd.Intn(3)], text)
		seen[wantModel(t, damaged(rnd, data), rnd.Intn(100))]++
	}
	for _, e := range []api.Errno{
		api.OK, api.ErrEnd, api.ErrZlib, api.ErrBlock, api.ErrStored, api.ErrOver, api.ErrLess, api.ErrCode, api.ErrFar, api.ErrBig, api.ErrSum, api.ErrMore,
	} {
		if seen[e] == 0 {
			t.Errorf("never: %v", e)
		}
	}
}

// P6.3: random texts, of few letters and of many.
func TestRoundTrip(t *testing.T) {
	rnd := rand.New(rand.NewSource(62))
	for range 500 {
		text := make([]byte, rnd.Intn(600))
		letters := 1 + rnd.Intn(256)
		for i := range text {
			text[i] = byte(rnd.Intn(letters))
		}
		wrapped := zlib.Wrap(string(text))
		check(t, "what Wrap wrote", wrapped, len(text), string(text), api.OK)
		wantError(t, "cut off", wrapped[:rnd.Intn(len(wrapped))], len(text), api.ErrEnd)
	}
}
