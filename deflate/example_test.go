package deflate_test

import (
	"fmt"

	"vitrine/deflate"
	"vitrine/inflate"
)

// What README.md shows.
func Example() {
	stream := deflate.Deflate("aaaaaaaaaa")
	fmt.Printf("% x\n", stream)
	fmt.Println(inflate.Inflate(stream, 10))
	// Output:
	// 4b 84 03 00
	// aaaaaaaaaa 4 error 0
}
