package chunk_test

import (
	"fmt"

	"vitrine/api"
	"vitrine/chunk"
)

// What README.md shows.
func Example() {
	file, e := chunk.Join(api.Chunk{Type: "tEXt", Data: "a"}, api.Chunk{Type: "IEND"})
	fmt.Printf("%q %v\n", file, e)
	chunks, e := chunk.Split(file)
	fmt.Printf("%q %v\n", chunks, e)
	fmt.Println(chunk.Critical("IEND"), chunk.Critical("tEXt"))
	// Output:
	// "\x89PNG\r\n\x1a\n\x00\x00\x00\x01tEXtau\xf3\x8b)\x00\x00\x00\x00IEND\xaeB`\x82" error 0
	// [{"tEXt" "a"} {"IEND" ""}] error 0
	// true false
}
