package lace_test

import (
	"fmt"

	"vitrine/api"
	"vitrine/lace"
)

// What README.md shows.
func Example() {
	h := api.Head{W: 5, H: 1, Depth: 8, Colour: api.RGB, Lace: 1}
	passes := lace.Passes(h)
	fmt.Println(len(passes), passes[3])
	fmt.Println(lace.Row(h, 2))
	fmt.Println(lace.Size(h))
	// Output:
	// 4 {1 0 2 2 2 1}
	// 6
	// 19
}
