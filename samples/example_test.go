package samples_test

import (
	"fmt"

	"vitrine/api"
	"vitrine/samples"
)

// What README.md shows.
func Example() {
	row, e := samples.Pack(2, 1, 2, 3)
	fmt.Printf("%X %d\n", row, e)
	list, e := samples.Unpack(row, 2, 3)
	fmt.Println(list, int(e))
	fmt.Println(samples.Wide(2, 2))
	s := api.Shape{Head: api.Head{W: 1, H: 1, Depth: 8, Colour: api.Grey}}
	one, e := samples.Pixel(s, 128)
	fmt.Printf("% X %d\n", one, e)
	// Output:
	// 6C 0
	// [1 2 3] 0
	// 43690
	// 80 80 80 80 80 80 FF FF 0
}
