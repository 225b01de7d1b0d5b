package disk_test

import (
	"fmt"
	"slices"
	"testing"

	"vitrine/api"
	"vitrine/disk"
)

// P16.2, P16.4: the chapter's examples.
func TestExamplesOfChapter(t *testing.T) {
	d := after(t, 10, add(0, "abc"), fix(0), add(0, "def"), crash(2))
	if text, e := d.Read(0); text != "abcde" || e != api.OK {
		t.Errorf("Read(0) is %q, %d", text, e)
	}
	run(t, d, add(0, "123456").gives(api.ErrFull), arm(1), add(1, "x").gives(api.ErrDead), crash(1))
	if files := d.Files(); !slices.Equal(files, []int{0, 1}) {
		t.Errorf("files %v", files)
	}
	if text, e := d.Read(1); text != "x" || e != api.OK {
		t.Errorf("Read(1) is %q, %d", text, e)
	}
	wantFiles(t, d, "0=abcde 1=x")
	wantSteps(t, d, 4)
}

// What README.md shows.
func Example() {
	d, e := disk.New(10)
	fmt.Println(int(e))
	fmt.Println(int(d.Append(0, "abc")), int(d.Sync(0)), int(d.Append(0, "def")))
	d.Crash(2)
	text, e := d.Read(0)
	fmt.Println(text, int(e))
	fmt.Println(d.Append(0, "123456") == api.ErrFull)
	d.Arm(2)
	fmt.Println(int(d.Cut(0, 4)))
	fmt.Println(d.Append(1, "x") == api.ErrDead, d.Dead())
	d.Crash(1)
	fmt.Println(d.Files(), d.Size(), d.Steps(), d.Dead())
	fmt.Println(int(d.Drop(0)))
	// Output:
	// 0
	// 0 0 0
	// abcde 0
	// true
	// 0
	// true true
	// [0 1] 5 5 false
	// 0
}
