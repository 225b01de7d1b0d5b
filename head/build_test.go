package head_test

import (
	"encoding/binary"
	"fmt"
	"math/big"
	"slices"
	"strings"
	"testing"

	"vitrine/api"
	"vitrine/head"
)

func c(kind, data string) api.Chunk { return api.Chunk{Type: kind, Data: data} }

// ihdr is an IHDR of any numbers, with any two bytes after the colour type.
func ihdr(w, h uint32, depth, colour, first, second, lace byte) api.Chunk {
	b := binary.BigEndian.AppendUint32(nil, w)
	b = binary.BigEndian.AppendUint32(b, h)
	return c("IHDR", string(append(b, depth, colour, first, second, lace)))
}

// small is an IHDR of an image of 2 by 3 pixels.
func small(colour, depth int) api.Chunk { return ihdr(2, 3, byte(depth), byte(colour), 0, 0, 0) }

// depthsOf has the depths of each colour type.
func depthsOf() map[int][]int {
	return map[int][]int{0: {1, 2, 4, 8, 16}, 2: {8, 16}, 3: {1, 2, 4, 8}, 4: {8, 16}, 6: {8, 16}}
}

// colours are the colour types, in an order of their own.
func colours() []int { return []int{0, 2, 3, 4, 6} }

// noise is n bytes without a short period.
func noise(n int) string {
	b := make([]byte, n)
	x := uint32(7)
	for i := range b {
		x = x*1664525 + 1013904223
		b[i] = byte(x >> 24)
	}
	return string(b)
}

// transOf is a transparency that fits an image of a colour type, if it may have one.
func transOf(colour int) string {
	return map[int]string{api.Grey: "tr", api.RGB: "transp", api.Palette: "t"}[colour]
}

// partOf is the chunk that a letter stands for: the header H, a palette of 2 entries P, a transparency T, data D, the end E, an ignored chunk x and a critical one C.
func partOf(colour int, letter rune) api.Chunk {
	return map[rune]api.Chunk{'H': small(colour, 8), 'P': c("PLTE", "abcdef"), 'T': c("tRNS", transOf(colour)), 'D': c("IDAT", "data"), 'E': c("IEND", ""), 'x': c("tEXt", "ignored"), 'C': c("ABCD", "critical")}[letter]
}

// listOf is the chunks that letters stand for.
func listOf(colour int, letters string) []api.Chunk {
	var list []api.Chunk
	for _, letter := range letters {
		list = append(list, partOf(colour, letter))
	}
	return list
}

// rightModel is the second part of P8.1 in its own words.
func rightModel(h api.Head) api.Errno {
	for _, side := range []int{h.W, h.H} {
		if side < 1 || side > 2147483647 {
			return api.ErrHead
		}
	}
	if !slices.Contains(depthsOf()[h.Colour], h.Depth) || h.Lace*h.Lace != h.Lace {
		return api.ErrHead
	}
	area := new(big.Int).Mul(big.NewInt(int64(h.W)), big.NewInt(int64(h.H)))
	if max(h.W, h.H) > 1024 || area.Cmp(big.NewInt(4096)) > 0 {
		return api.ErrBig
	}
	return api.OK
}

// have tells whether a chunk of a type is among some.
func have(chunks []api.Chunk, kind string) bool {
	return slices.ContainsFunc(chunks, func(x api.Chunk) bool { return x.Type == kind })
}

// dataOf is what all chunks of a type have, one behind the other.
func dataOf(chunks []api.Chunk, kind string) string {
	all := ""
	for _, x := range chunks {
		if x.Type == kind {
			all += x.Data
		}
	}
	return all
}

// errorOf is the error of a chunk, with all those ahead of it and behind it.
func errorOf(h api.Head, ahead []api.Chunk, x api.Chunk, behind []api.Chunk) api.Errno {
	n, noPalette := len(x.Data), h.Colour == 3 && !have(ahead, "PLTE")
	plte, trns, idat := have(ahead, "PLTE"), have(ahead, "tRNS"), have(ahead, "IDAT")
	say := func(list ...any) api.Errno {
		for i := 0; i < len(list); i += 2 {
			if list[i].(bool) {
				return list[i+1].(api.Errno)
			}
		}
		return api.OK
	}
	switch x.Type {
	case "IHDR":
		return api.ErrOrder
	case "PLTE":
		return say(plte || trns || idat, api.ErrOrder, h.Colour == 0 || h.Colour == 4, api.ErrPalette, n%3 != 0 || n < 3 || n > 768, api.ErrPalette, h.Colour == 3 && n > 3<<h.Depth, api.ErrPalette)
	case "tRNS":
		return say(trns || idat || noPalette, api.ErrOrder, h.Colour == 4 || h.Colour == 6, api.ErrTrans, h.Colour == 0 && n != 2, api.ErrTrans, h.Colour == 2 && n != 6, api.ErrTrans, h.Colour == 3 && n > len(dataOf(ahead, "PLTE"))/3, api.ErrTrans)
	case "IDAT":
		return say(noPalette, api.ErrOrder, idat && ahead[len(ahead)-1].Type != "IDAT", api.ErrOrder)
	case "IEND":
		return say(n > 0, api.ErrChunk, !idat, api.ErrOrder, len(behind) > 0, api.ErrMore)
	}
	return say(x.Type != "" && x.Type[0] >= 'A' && x.Type[0] <= 'Z', api.ErrCritical)
}

// readModel is P8.3 in its own words.
func readModel(chunks []api.Chunk) (api.Shape, string, api.Errno) {
	if len(chunks) == 0 || chunks[0].Type != "IHDR" {
		return api.Shape{}, "", api.ErrOrder
	}
	b := []byte(chunks[0].Data)
	if len(b) != 13 || b[10] != 0 || b[11] != 0 {
		return api.Shape{}, "", api.ErrHead
	}
	h := api.Head{W: int(binary.BigEndian.Uint32(b)), H: int(binary.BigEndian.Uint32(b[4:])), Depth: int(b[8]), Colour: int(b[9]), Lace: int(b[12])}
	if e := rightModel(h); e != api.OK {
		return api.Shape{}, "", e
	}
	for i := 1; i < len(chunks); i++ {
		if e := errorOf(h, chunks[:i], chunks[i], chunks[i+1:]); e != api.OK {
			return api.Shape{}, "", e
		}
		if chunks[i].Type == "IEND" {
			return api.Shape{Head: h, Palette: dataOf(chunks, "PLTE"), Trans: dataOf(chunks, "tRNS"), HasTrans: have(chunks, "tRNS")}, dataOf(chunks, "IDAT"), api.OK
		}
	}
	return api.Shape{}, "", api.ErrEnd
}

// told is a shape in short.
func told(s api.Shape) string {
	return fmt.Sprintf("%+v %.40q (%d) %.40q (%d) %v", s.Head, s.Palette, len(s.Palette), s.Trans, len(s.Trans), s.HasTrans)
}

// wantRead holds the results of Read against those that are wanted.
func wantRead(t *testing.T, name string, chunks []api.Chunk, shape api.Shape, data string, e api.Errno) {
	t.Helper()
	if gotShape, gotData, gotE := head.Read(chunks...); gotShape != shape || gotData != data || gotE != e {
		t.Errorf("%s, %.40q (%d): %s, %.80q, %v; not %s, %.80q, %v", name, chunks, len(chunks), told(gotShape), gotData, gotE, told(shape), data, e)
	}
}

// wantError wants the error, and nothing with it.
func wantError(t *testing.T, name string, e api.Errno, chunks ...api.Chunk) {
	t.Helper()
	wantRead(t, name, chunks, api.Shape{}, "", e)
}

// wantModel holds Read against the model, and returns the error.
func wantModel(t *testing.T, chunks []api.Chunk) api.Errno {
	t.Helper()
	shape, data, e := readModel(chunks)
	wantRead(t, "not as the model", chunks, shape, data, e)
	return e
}

// wantWay wants an error, or right results, of the chunks that letters stand for.
func wantWay(t *testing.T, colour int, letters string, e api.Errno) {
	t.Helper()
	list := listOf(colour, letters)
	if e != api.OK {
		wantError(t, letters, e, list...)
		return
	}
	shape := api.Shape{Head: api.Head{W: 2, H: 3, Depth: 8, Colour: colour}}
	if strings.Contains(letters, "P") {
		shape.Palette = "abcdef"
	}
	if strings.Contains(letters, "T") {
		shape.Trans, shape.HasTrans = partOf(colour, 'T').Data, true
	}
	wantRead(t, letters, list, shape, strings.Repeat("data", strings.Count(letters, "D")), api.OK)
}
