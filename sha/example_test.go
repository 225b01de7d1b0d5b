package sha_test

import (
	"fmt"

	"vitrine/sha"
)

// What README.md shows.
func Example() {
	hash := sha.Sum("abc")
	fmt.Println(len(hash), sha.Hex(hash))
	fmt.Println(sha.Hex("\x00\x0f\xa0\xff"))
	// Output:
	// 32 ba7816bf8f01cfea414140de5dae2223b00361a396177a9cb410ff61f20015ad
	// 000fa0ff
}
