package lz_test

import (
	"fmt"

	"vitrine/lz"
)

// What README.md shows.
func Example() {
	tokens := lz.Tokens("abcabcab")
	text, e := lz.Expand(tokens...)
	fmt.Println(tokens)
	fmt.Println(text, int(e))
	// Output:
	// [{97 0 0} {98 0 0} {99 0 0} {0 5 3}]
	// abcabcab 0
}
