package disk_test

import (
	"math"
	"strings"
	"testing"

	"vitrine/api"
	"vitrine/disk"
)

// P16.1: limits that there are, at their edges.
func TestLimits(t *testing.T) {
	for _, limit := range []int{1, 2, 10, 255, 256, 65535, 65536, 1048576, 16777215, 16777216} {
		if d, e := disk.New(limit); d == nil || e != api.OK {
			t.Errorf("New(%d) is %t, %d", limit, d != nil, e)
		}
	}
	for _, limit := range []int{0, -1, -2, -10, -16777216, math.MinInt, math.MinInt + 1, math.MinInt32, 16777217, 16777218, 33554432, math.MaxInt32, math.MaxInt32 + 1, math.MaxUint32 + 1, math.MaxUint32 + 2, math.MaxInt - 1, math.MaxInt} {
		if d, e := disk.New(limit); d != nil || e != api.ErrArg {
			t.Errorf("New(%d) is %t, %d", limit, d != nil, e)
		}
	}
}

// P16.1: a new disk has no files and no steps, is not dead and not armed.
func TestNewDisk(t *testing.T) {
	for _, limit := range []int{1, 10, 16777216} {
		d := newDisk(t, limit)
		wantFiles(t, d, "")
		wantSteps(t, d, 0)
		if len(d.Files()) != 0 || d.Size() != 0 || d.Dead() {
			t.Errorf("limit %d: files %v, %d bytes, dead: %t", limit, d.Files(), d.Size(), d.Dead())
		}
		for _, file := range []int{0, 1, 7, 65535} {
			if text, e := d.Read(file); text != "" || e != api.OK {
				t.Errorf("limit %d: Read(%d) is %q, %d", limit, file, text, e)
			}
		}
		wantSteps(t, d, 0)
		wantNotArmed(t, d)
		wantSteps(t, d, 50)
	}
}

// P16.1, P16.2: a disk takes as many bytes as its limit says, and no more.
func TestLimitHolds(t *testing.T) {
	for _, limit := range []int{1, 2, 255, 256, 257, 65536, 16777215, 16777216} {
		text := strings.Repeat("z", limit)
		d := newDisk(t, limit)
		run(t, d, add(0, text+"z").gives(api.ErrFull), add(0, text), add(0, "z").gives(api.ErrFull), add(0, ""))
		if got, e := d.Read(0); got != text || e != api.OK || d.Size() != limit {
			t.Errorf("limit %d: %d bytes, %d, size %d", limit, len(got), e, d.Size())
		}
	}
}

// R1: a Disk that is not from New does not panic either, and is no disk for bytes.
func TestNotFromNew(t *testing.T) {
	d := new(disk.Disk)
	run(t, d, add(-1, "").gives(api.ErrArg), add(0, "a").gives(api.ErrFull), fix(0), cut(0, 0), drop(0), read(0), crash(1), arm(0), add(0, ""))
	wantFiles(t, d, "0=")
}

// R3: disks are apart.
func TestDisksAreApart(t *testing.T) {
	a, b := newDisk(t, 5), newDisk(t, 5)
	run(t, a, add(0, "abc"), fix(0), add(1, "de"))
	wantFiles(t, b, "")
	run(t, b, add(0, "xyz"), add(2, "uv"), arm(1), drop(0).gives(api.ErrDead))
	wantFiles(t, a, "0=abc 1=de")
	wantSteps(t, a, 3)
	wantNotArmed(t, a)
	run(t, a, crash(1))
	wantFiles(t, a, "0=abc 1=d")
	wantDead(t, b, []int{0, 2}, 5, 3)
	run(t, b, crash(2, 1))
	wantFiles(t, b, "0=xy 2=u")
}
