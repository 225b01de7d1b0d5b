package filter_test

import (
	"fmt"

	"vitrine/filter"
)

// What README.md shows.
func Example() {
	line, e := filter.Do(1, 1, "\x03\x05\x04", "")
	fmt.Printf("% X %v\n", line, e)
	row, e := filter.Undo(1, 1, line, "")
	fmt.Printf("% X %v\n", row, e)
	kind, e := filter.Pick(1, "\x09\x09\x09\x09", "")
	fmt.Println(kind, e)
	// Output:
	// 03 02 FF error 0
	// 03 05 04 error 0
	// 1 error 0
}
