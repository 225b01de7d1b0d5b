package pixel_test

import (
	"fmt"

	"vitrine/api"
	"vitrine/pixel"
)

// What README.md shows.
func Example() {
	s := api.Shape{Head: api.Head{W: 1, H: 1, Depth: 8, Colour: api.Grey}}
	raster, e := pixel.Image(s, "\x00\x80")
	fmt.Printf("%d %d % X %d\n", raster.W, raster.H, raster.Pix, e)
	fmt.Println(int(pixel.Check(raster)))
	data, e := pixel.Rows(raster)
	fmt.Printf("% X %d\n", data, e)
	// Output:
	// 1 1 80 80 80 80 80 80 FF FF 0
	// 0
	// 00 80 80 80 80 80 80 FF FF 0
}
