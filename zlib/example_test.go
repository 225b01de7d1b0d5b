package zlib_test

import (
	"fmt"

	"vitrine/zlib"
)

// What README.md shows.
func Example() {
	wrapped := zlib.Wrap("a")
	fmt.Printf("% x\n", wrapped)
	fmt.Println(zlib.Unwrap(wrapped, 100))
	// Output:
	// 78 01 4b 04 00 00 62 00 62
	// a error 0
}
