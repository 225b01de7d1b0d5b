package inflate_test

import (
	"fmt"

	"vitrine/inflate"
)

// What README.md shows.
func Example() {
	text, n, e := inflate.Inflate("\x4b\x04\x00 and more", 100)
	fmt.Printf("%q %d %d\n", text, n, e)
	// Output:
	// "a" 3 0
}
