package head

import (
	"strings"

	"vitrine/api"
	"vitrine/chunk"
)

// The types that are known.
const (
	typeHead    = "IHDR"
	typePalette = "PLTE"
	typeTrans   = "tRNS"
	typeData    = "IDAT"
	typeEnd     = "IEND"
)

const (
	entrySize   = 3   // bytes of a palette's entry
	mostEntries = 256 // of the palette of an image that need not use it

	// The bytes of a colour that is transparent, 2 a sample.
	greyTrans = 2
	rgbTrans  = 6
)

// file is what the chunks so far say. A palette is never empty, so that it tells by itself whether it is there.
type file struct {
	shape   api.Shape
	data    strings.Builder
	hasData bool
	last    string // the type of the chunk ahead
}

// Read is what chunks say of an image: its shape, and its packed bytes.
func Read(chunks ...api.Chunk) (api.Shape, string, api.Errno) {
	if len(chunks) == 0 || chunks[0].Type != typeHead {
		return api.Shape{}, "", api.ErrOrder
	}
	h, e := headOf(chunks[0].Data)
	if e != api.OK {
		return api.Shape{}, "", e
	}
	f := file{shape: api.Shape{Head: h}}
	if e := f.addAll(chunks[1:]); e != api.OK {
		return api.Shape{}, "", e
	}
	return f.shape, f.data.String(), api.OK
}

// addAll takes in the chunks behind the header.
func (f *file) addAll(chunks []api.Chunk) api.Errno {
	for i, c := range chunks {
		if c.Type == typeEnd {
			return f.endError(c.Data, len(chunks)-i-1)
		}
		if e := f.add(c); e != api.OK {
			return e
		}
		f.last = c.Type
	}
	return api.ErrEnd
}

// add takes in a chunk that is not the end.
func (f *file) add(c api.Chunk) api.Errno {
	switch c.Type {
	case typeHead:
		return api.ErrOrder
	case typePalette:
		return f.addPalette(c.Data)
	case typeTrans:
		return f.addTrans(c.Data)
	case typeData:
		return f.addData(c.Data)
	}
	if chunk.Critical(c.Type) {
		return api.ErrCritical
	}
	return api.OK
}

func (f *file) addPalette(data string) api.Errno {
	if f.shape.Palette != "" || f.shape.HasTrans || f.hasData {
		return api.ErrOrder
	}
	if !paletteFits(f.shape.Head, len(data)) {
		return api.ErrPalette
	}
	f.shape.Palette = strings.Clone(data)
	return api.OK
}

// paletteFits tells whether an image may have a palette of so many bytes.
func paletteFits(h api.Head, size int) bool {
	most := mostEntries
	switch h.Colour {
	case api.Grey, api.GreyA:
		return false
	case api.Palette:
		most = 1 << h.Depth
	}
	return size%entrySize == 0 && size >= entrySize && size <= entrySize*most
}

func (f *file) addTrans(data string) api.Errno {
	if f.shape.HasTrans || f.hasData || f.lacksPalette() {
		return api.ErrOrder
	}
	if !transFits(f.shape, len(data)) {
		return api.ErrTrans
	}
	f.shape.Trans, f.shape.HasTrans = strings.Clone(data), true
	return api.OK
}

// transFits tells whether an image may have a transparency of so many bytes.
func transFits(s api.Shape, size int) bool {
	switch s.Colour {
	case api.Grey:
		return size == greyTrans
	case api.RGB:
		return size == rgbTrans
	case api.Palette:
		return size <= len(s.Palette)/entrySize
	}
	return false
}

func (f *file) addData(data string) api.Errno {
	if f.lacksPalette() || f.hasData && f.last != typeData {
		return api.ErrOrder
	}
	f.data.WriteString(data)
	f.hasData = true
	return api.OK
}

// lacksPalette tells whether the palette without which the pixels say nothing is missing so far.
func (f *file) lacksPalette() bool {
	return f.shape.Colour == api.Palette && f.shape.Palette == ""
}

// endError is the error of an IEND with so many chunks behind it.
func (f *file) endError(data string, behind int) api.Errno {
	switch {
	case data != "":
		return api.ErrChunk
	case !f.hasData:
		return api.ErrOrder
	case behind != 0:
		return api.ErrMore
	}
	return api.OK
}
