package png_test

import (
	"fmt"

	"vitrine/api"
	"vitrine/png"
)

// What README.md shows.
func Example() {
	file, e := png.Encode(api.Raster{W: 1, H: 1, Pix: "\x80\x80\x80\x80\x80\x80\xff\xff"})
	fmt.Printf("%q %d\n", file[:8], e)
	raster, e := png.Decode(file)
	fmt.Printf("%d %d % X %d\n", raster.W, raster.H, raster.Pix, e)
	_, e = png.Decode(file[:60])
	fmt.Println(e == api.ErrEnd)
	// Output:
	// "\x89PNG\r\n\x1a\n" 0
	// 1 1 80 80 80 80 80 80 FF FF 0
	// true
}
