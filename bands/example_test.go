package bands_test

import (
	"fmt"
	"strings"

	"vitrine/api"
	"vitrine/bands"
)

// What README.md shows.
func Example() {
	raster := api.Raster{W: 2, H: 9, Pix: strings.Repeat("a", 144)}
	parts, e := bands.Cut(raster)
	fmt.Println(len(parts), len(parts[0]), len(parts[1]), int(e))
	manifest, e := bands.Manifest(raster)
	fmt.Println(len(manifest), int(e))
	width, height, hashes, e := bands.Read(manifest)
	fmt.Println(width, height, len(hashes), int(e))
	joined, e := bands.Join(manifest, parts...)
	fmt.Println(joined == raster, int(e))
	_, e = bands.Join(manifest, parts[1:]...)
	fmt.Println(e == api.ErrBand)
	fmt.Println(int(bands.Name("a-picture")), bands.Name("a picture") == api.ErrName)
	// Output:
	// 2 128 16 0
	// 72 0
	// 2 9 2 0
	// true 0
	// true
	// 0 true
}
