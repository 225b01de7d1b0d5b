package seglog_test

import (
	"fmt"
	"testing"

	"vitrine/api"
	"vitrine/disk"
	"vitrine/seglog"
)

// P17.2, P17.4, P17.1: the chapter's examples.
func TestExamplesOfChapter(t *testing.T) {
	d, l := begin(t, put("a", "bc"))
	if d.Size() != 8+4+8+1+8+2 {
		t.Errorf("%d bytes", d.Size())
	}
	wantFile(t, d, 0, states0+frameA+frameBC)
	run(t, l, pack("x"))
	if d.Size() != 21 {
		t.Errorf("%d bytes", d.Size())
	}
	wantFile(t, d, 1, states1+frameX)
	if text, e := d.Read(0); text != "" || e != api.OK {
		t.Errorf("Read(0) is %q, %d", text, e)
	}
	d = newDisk(t, 100, add(0, states0+frameA+frameBC[:9]))
	open(t, d, "a")
	wantFile(t, d, 0, states0+frameA)
}

// What README.md shows.
func Example() {
	d, e := disk.New(1000)
	l, records, e := seglog.Open(d)
	fmt.Println(len(records), int(e))
	fmt.Println(int(l.Append("a", "bc")), int(l.Sync()), int(l.Append("lost")))
	d.Crash(5)
	l, records, e = seglog.Open(d)
	fmt.Printf("%q %d\n", records, int(e))
	fmt.Println(d.Files(), d.Size())
	fmt.Println(int(l.Compact("x")), int(l.Append("y")))
	fmt.Println(d.Files(), d.Size())
	_, records, e = seglog.Open(d)
	fmt.Printf("%q %d\n", records, int(e))
	fmt.Println(l.Append("") == api.ErrArg)
	// Output:
	// 0 0
	// 0 0 0
	// ["a" "bc"] 0
	// [0] 31
	// 0 0
	// [1] 30
	// ["x" "y"] 0
	// true
}
