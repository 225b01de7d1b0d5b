package huff_test

import (
	"fmt"

	"vitrine/bits"
	"vitrine/huff"
)

// What README.md shows.
func Example() {
	lens, _ := huff.Limit(15, 1, 1, 2, 4)
	codes, _ := huff.Codes(lens...)
	fmt.Println(lens, codes)
	table, _ := huff.Make(lens...)
	w := bits.New()
	table.Lay(w, 2)
	fmt.Println(bits.Read(w.Text()).Bits(2))
	fmt.Println(table.Next(bits.Read(w.Text())))
	// Output:
	// [3 3 2 1] [6 7 2 0]
	// 1 error 0
	// 2 error 0
}
