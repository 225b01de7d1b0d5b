package zlib_test

import (
	"math"
	"strings"
	"testing"

	"vitrine/api"
	"vitrine/deflate"
	"vitrine/zlib"
)

// P6.2: the examples of the document.
func TestUnwrapExamples(t *testing.T) {
	check(t, "empty", "\x78\x01\x03\x00\x00\x00\x00\x01", 0, "", api.OK)
	wantError(t, "no stream", "\x78\x01", big, api.ErrEnd)
	wantError(t, "no head", "\x78\x02", big, api.ErrZlib)
	wantError(t, "another sum", "\x78\x01\x03\x00\x00\x00\x00\x02", big, api.ErrSum)
}

// P6.2: texts in each kind of block.
func TestKinds(t *testing.T) {
	for _, text := range texts() {
		for _, stream := range streams(text) {
			check(t, "a kind", whole(stream, text), len(text), text, api.OK)
		}
	}
}

// P6.2: fewer than 2 bytes, whatever they are.
func TestNoHead(t *testing.T) {
	for _, most := range []int{math.MinInt, -1, 0, 1, math.MaxInt} {
		wantError(t, "nothing", "", most, api.ErrEnd)
		for b := range 256 {
			wantError(t, "one byte", string([]byte{byte(b)}), most, api.ErrEnd)
		}
	}
}

// heads is all that are right.
const heads = "" +
	"\x08\x1d\x08\x5b\x08\x99\x08\xd7\x18\x19\x18\x57\x18\x95\x18\xd3" +
	"\x28\x15\x28\x53\x28\x91\x28\xcf\x38\x11\x38\x4f\x38\x8d\x38\xcb" +
	"\x48\x0d\x48\x4b\x48\x89\x48\xc7\x58\x09\x58\x47\x58\x85\x58\xc3" +
	"\x68\x05\x68\x43\x68\x81\x68\xde\x78\x01\x78\x5e\x78\x9c\x78\xda"

// P6.2: each of the 65536 heads, ahead of a stream and ahead of nothing.
func TestHeads(t *testing.T) {
	right := map[string]bool{}
	for i := 0; i < len(heads); i += 2 {
		right[heads[i:i+2]] = true
	}
	rest := zlib.Wrap("text")[2:]
	for i := range 65536 {
		head := string([]byte{byte(i >> 8), byte(i)})
		if right[head] {
			check(t, "a right head", head+rest, 4, "text", api.OK)
			wantError(t, "a right head alone", head, 4, api.ErrEnd)
			continue
		}
		wantError(t, "a wrong head", head+rest, 4, api.ErrZlib)
		wantError(t, "a wrong head alone", head, 4, api.ErrZlib)
	}
}

// P6.2: each of the four reasons for ErrZlib by itself.
func TestHeadReasons(t *testing.T) {
	rest := zlib.Wrap("text")[2:]
	for reason, list := range map[string][]string{
		"another method":           {"\x70\x03", "\x77\x09", "\x79\x18", "\x7f\x07", "\x00\x00", "\x0f\x04"},
		"a window that is too big": {"\x88\x1c", "\x98\x18", "\xf8\x00", "\xf8\x1f"},
		"no multiple of 31":        {"\x78\x00", "\x78\x02", "\x78\x9b", "\x78\x9d", "\x08\x00", "\x08\x1c"},
		"a dictionary":             {"\x78\x20", "\x78\x3f", "\x78\x7d", "\x78\xbb", "\x78\xf9", "\x08\x3c"},
	} {
		for _, head := range list {
			first, second := int(head[0]), int(head[1])
			for other, is := range map[string]bool{
				"another method":           first%16 != 8,
				"a window that is too big": first/16 > 7,
				"no multiple of 31":        (256*first+second)%31 != 0,
				"a dictionary":             second/32%2 == 1,
			} {
				if is != (other == reason) {
					t.Errorf("%q has not the reason %q alone", head, reason)
				}
			}
			wantError(t, reason, head+rest, big, api.ErrZlib)
		}
	}
}

// broken is a stream with an error that does not depend on what follows.
type broken struct {
	name, stream string
	most         int
	want         api.Errno
}

// brokenStreams has each error of inflate.Inflate.
func brokenStreams() []broken {
	const dynamic = "1" + "01" + "00000" + "00000" + "0000" // 4 lengths of the small code
	return []broken{
		{"stored bytes are missing", "\x01\xff\xff\x00\x00", big, api.ErrEnd},
		{"kind 3", "\x07", big, api.ErrBlock},
		{"kind 3 behind a block", packed("0", "10", "10010001", "0000000", "1", "11"), big, api.ErrBlock},
		{"stored numbers that differ", "\x01\x02\x00\xfd\xfe", big, api.ErrStored},
		{"too many code words", packed(dynamic, strings.Repeat("100", 4)), big, api.ErrOver},
		{"too few code words", packed(dynamic, "010", strings.Repeat("000", 3)), big, api.ErrLess},
		{"no code word", packed(dynamic, strings.Repeat("000", 4)), big, api.ErrCode},
		{"the symbol 286", packed("1", "10", "11000110"), big, api.ErrCode},
		{"a distance ahead of the beginning", packed("1", "10", "0000001", "00000"), big, api.ErrFar},
		{"a literal more than most", deflate.Fixed("abc"), 2, api.ErrBig},
		{"a match more than most", deflate.Fixed("aaaaaaaa"), 7, api.ErrBig},
		{"a stored block more than most", deflate.Stored("abc"), 2, api.ErrBig},
		{"an empty stored block less than none", deflate.Stored(""), -1, api.ErrBig},
	}
}

// P6.2: each error of inflate.Inflate, with nothing behind the stream and with what would be an error itself.
func TestInflateErrors(t *testing.T) {
	seen := map[api.Errno]bool{}
	for _, b := range brokenStreams() {
		seen[b.want] = true
		for _, tail := range []string{"", "\x00", "\x00\x00\x00", "\x00\x00\x00\x01", sum("abc"), "\xff\xff\xff\xff\xff"} {
			wantError(t, b.name, "\x78\x01"+b.stream+tail, b.most, b.want)
			wantError(t, b.name+", another head", "\x78\xda"+b.stream+tail, b.most, b.want)
		}
	}
	if len(seen) != 8 {
		t.Errorf("only %d errors", len(seen))
	}
}

// P6.2: a stream that is cut off anywhere, also within its first byte.
func TestStreamCutOff(t *testing.T) {
	for _, text := range texts() {
		for _, stream := range streams(text) {
			for n := range len(stream) {
				wantError(t, "cut off", "\x78\x01"+stream[:n], len(text), api.ErrEnd)
			}
		}
	}
}

// P6.2: a most that is just met, and one that is passed.
func TestMost(t *testing.T) {
	for _, text := range texts() {
		for _, stream := range streams(text) {
			data := whole(stream, text)
			for _, most := range []int{len(text), len(text) + 1, big, math.MaxInt} {
				check(t, "room", data, most, text, api.OK)
			}
			for _, most := range []int{len(text) - 1, len(text) / 2, 0, -1, math.MinInt} {
				if most < len(text) && text != "" {
					wantError(t, "no room", data, most, api.ErrBig)
				}
			}
		}
	}
	// A block of symbols is checked for each of them, so that one without output is never too big; a stored block is checked as a whole.
	for _, most := range []int{-1, math.MinInt} {
		check(t, "no output", whole(deflate.Fixed(""), ""), most, "", api.OK)
		wantError(t, "no output, stored", whole(deflate.Stored(""), ""), most, api.ErrBig)
	}
}

// P6.2: 0 to 3 bytes behind the stream, be they right or wrong.
func TestNoSum(t *testing.T) {
	for _, text := range texts() {
		for _, stream := range streams(text) {
			for n := range 4 {
				wantError(t, "no sum", "\x78\x01"+stream+sum(text)[:n], len(text), api.ErrEnd)
				wantError(t, "no sum, and wrong", "\x78\x01"+stream+"\xde\xad\xbe"[:n], len(text), api.ErrEnd)
			}
		}
	}
}

// P6.2: a sum that is wrong in one of its 32 bits, or whose bytes stand in another order.
func TestSum(t *testing.T) {
	for _, text := range texts() {
		for _, stream := range streams(text) {
			data := whole(stream, text)
			for bit := 8 * (len(data) - 4); bit < 8*len(data); bit++ {
				wantError(t, "a wrong sum", flipped(data, bit), len(text), api.ErrSum)
			}
		}
	}
	for _, other := range []string{"\x98\x03\xe6\x11", "\xe6\x11\x98\x03", "\x03\x98\x11\xe6", "\x11\xe6\x98\x03"} {
		wantError(t, "another order", "\x78\x01"+deflate.Fixed("Wikipedia")+other, big, api.ErrSum)
	}
	check(t, "big-endian", "\x78\x01"+deflate.Fixed("Wikipedia")+"\x11\xe6\x03\x98", 9, "Wikipedia", api.OK)
	wantError(t, "the sum of another text", "\x78\x01"+deflate.Fixed("Wikipedia")+sum("wikipedia"), big, api.ErrSum)
	wantError(t, "the sum of the stream", "\x78\x01"+deflate.Fixed("Wikipedia")+sum(deflate.Fixed("Wikipedia")), big, api.ErrSum)
}

// P6.2: each byte behind the sum, several, and a stream once more.
func TestMore(t *testing.T) {
	for _, text := range texts() {
		for _, stream := range streams(text) {
			data := whole(stream, text)
			wantError(t, "one byte", data+"\x00", len(text), api.ErrMore)
			wantError(t, "four bytes", data+sum(text), len(text), api.ErrMore)
			wantError(t, "twice", data+data, len(text), api.ErrMore)
		}
	}
	for b := range 256 {
		wantError(t, "one byte", zlib.Wrap("a")+string([]byte{byte(b)}), 1, api.ErrMore)
	}
}
