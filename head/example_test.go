package head_test

import (
	"fmt"

	"vitrine/api"
	"vitrine/head"
)

// What README.md shows.
func Example() {
	h := api.Head{W: 2, H: 1, Depth: 8, Colour: api.RGB}
	fmt.Println(head.Samples(h.Colour), head.Right(h))
	chunks := []api.Chunk{head.Lay(h), {Type: "IDAT", Data: "x"}, {Type: "IDAT", Data: "y"}, {Type: "IEND"}}
	shape, data, e := head.Read(chunks...)
	fmt.Println(shape.Head == h, data, e)
	// Output:
	// 3 error 0
	// true xy error 0
}
