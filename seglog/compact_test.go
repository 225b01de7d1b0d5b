package seglog_test

import (
	"fmt"
	"math/rand"
	"slices"
	"strings"
	"testing"

	"vitrine/api"
	"vitrine/seglog"
)

// P17.4: what stands on the disk, byte by byte, behind one Compact and behind the next ones; the log goes on in the new file.
func TestCompact(t *testing.T) {
	d, l := begin(t, put("a", "bc", "d"))
	for i, c := range []struct {
		call call
		file int
		want string
	}{
		{pack("x"), 1, states1 + frameX},
		{put("y"), 1, states1 + frameX + frameY},
		{pack("a", "bc"), 2, states2 + frameA + frameBC},
		{pack("a", "bc", "d"), 3, states3 + frameA + frameBC + frameD},
		{pack(), 4, states0},
		{put("a"), 4, states0 + frameA},
		{put("bc", "d"), 4, states0 + frameA + frameBC + frameD},
		{pack(), 5, states0},
		{pack(), 6, states0},
		{pack("\x00\x00\x00\x01"), 7, states1 + states1},
		{firm(), 7, states1 + states1},
	} {
		run(t, l, c.call)
		wantFile(t, d, c.file, c.want)
		if t.Failed() {
			t.Fatalf("call %d, %s", i, c.call.text)
		}
	}
	open(t, d, "\x00\x00\x00\x01")
}

// P17.4: Compact of a log that is not begun: the new file is 1, and is begun.
func TestCompactOfNothing(t *testing.T) {
	for _, own := range [][]string{nil, {"a"}, {"a", "bc", "d"}} {
		d, l := begin(t, pack(own...))
		text := laid(uint32(len(own)), own...)
		wantFile(t, d, 1, text)
		open(t, d, own...)
		run(t, l, put("x"), firm())
		wantFile(t, d, 1, text+frameX)
		d.Crash()
		open(t, d, append(own, "x")...)
		d, _ = begin(t, pack("y"), pack(own...))
		wantFile(t, d, 2, text)
	}
}

// P17.4: the steps of Compact, to no records, one, fewer and more, of a log that is begun and of one that is not.
func TestStepsOfCompact(t *testing.T) {
	for _, own := range [][]string{nil, {"x"}, {"x", "y"}, {"a", "bc", "d"}, {strings.Repeat("é", 9)}} {
		text := laid(uint32(len(own)), own...)
		one := callIs(pack(own...))
		name := fmt.Sprintf("Compact(%q)", own)
		wantSteps(t, inLog(), name+" of nothing", one, add(1, text), fix(1), drop(0))
		wantSteps(t, inLog(put("a")), name+" of one", one, add(1, text), fix(1), drop(0))
		wantSteps(t, inLog(put("a", "bc"), firm()), name+" of two", one, add(1, text), fix(1), drop(0))
		wantSteps(t, inLog(put("a", "bc"), firm(), put("d", "x", "y")), name+" of five", one, add(1, text), fix(1), drop(0))
		wantSteps(t, inLog(pack("x", "y")), name+" again", one, add(2, text), fix(2), drop(1))
		wantSteps(t, inLog(pack(), put("x", "y")), name+" again", one, add(2, text), fix(2), drop(1))
		wantSteps(t, inLog(pack(), pack("a"), pack()), name+" a fourth time", one, add(4, text), fix(4), drop(3))
		wantSteps(t, fromDisk(add(9, laid(0, "a"))), name+" of file 9", one, add(10, text), fix(10), drop(9))
		wantSteps(t, fromDisk(add(65534, laid(0))), name+" of file 65534", one, add(65535, text), fix(65535), drop(65534))
		wantSteps(t, fromDisk(add(5, "x")), name+" of no valid file", one, add(1, text), fix(1), drop(0))
	}
}

// P17.4: what is in the new file is synced, so that no crash loses it.
func TestCompactSyncs(t *testing.T) {
	for _, ahead := range [][]call{calls(), calls(put("a")), calls(put("a", "bc"), firm()), calls(pack("d"), put("a"))} {
		d, l := begin(t, append(ahead, pack("x", "y"))...)
		d.Crash()
		open(t, d, "x", "y")
		run(t, l, put("a"))
		d.Crash()
		open(t, d, "x", "y")
	}
}

// P17.4: numbers of records of which each byte counts, and records of all lengths.
func TestCompactToMany(t *testing.T) {
	for _, n := range []int{255, 256, 257, 65535, 65536} {
		d, _ := begin(t, put("a"), pack(slices.Repeat([]string{"x"}, n)...))
		wantFile(t, d, 1, laid(uint32(n))+strings.Repeat(frameX, n))
		open(t, d, slices.Repeat([]string{"x"}, n)...)
	}
	rnd := rand.New(rand.NewSource(174))
	var records []string
	for n := 1; n <= 300; n++ {
		records = append(records, noise(rnd, n))
	}
	records = append(records, noise(rnd, most-1), noise(rnd, most), "a")
	d := newDisk(t, 1<<24)
	l := open(t, d)
	run(t, l, put("a"), pack(records...))
	wantFile(t, d, 1, laid(303, records...))
	open(t, d, records...)
	run(t, l, pack(records[:2]...))
	wantFile(t, d, 2, laid(2, records[:2]...))
}

// P17.4: many times in a row, each with the next number.
func TestCompactManyTimes(t *testing.T) {
	d, l := begin(t)
	for n := 1; n <= 300; n++ {
		own := slices.Repeat([]string{"x"}, n%5)
		run(t, l, pack(own...))
		wantFile(t, d, n, laid(uint32(n%5))+strings.Repeat(frameX, n%5))
		open(t, d, own...)
		if d.Steps() != 4*n { // one of them is Open's
			t.Fatalf("%d steps", d.Steps())
		}
	}
}

// P17.4: a disk without room for the new file beside the old one: ErrFull at the first step, and the log is unchanged.
func TestCompactOnFullDisk(t *testing.T) {
	old := states0 + frameA + frameBC
	for _, own := range [][]string{nil, {"x"}, {"x", "y"}, {"a", "bc", "d", "x", "y"}} {
		text := laid(uint32(len(own)), own...)
		for _, room := range []int{0, 1, len(text) - 1} {
			d := newDisk(t, len(old)+room)
			l := open(t, d)
			run(t, l, put("a", "bc"), firm(), pack(own...).gives(api.ErrFull), pack(own...).gives(api.ErrFull))
			wantFile(t, d, 0, old)
			if d.Steps() != 2 || d.Dead() {
				t.Errorf("%d steps, dead: %t", d.Steps(), d.Dead())
			}
			if room >= len(frameD) {
				run(t, l, put("d"))
				wantFile(t, d, 0, old+frameD)
				open(t, d, "a", "bc", "d")
			} else {
				run(t, l, put("d").gives(api.ErrFull), firm())
				open(t, d, "a", "bc")
			}
			do(t, d, drop(0))
			if len(text) <= len(old)+room {
				run(t, l, pack(own...))
				wantFile(t, d, 1, text)
			}
		}
		d := newDisk(t, len(old)+len(text))
		l := open(t, d)
		run(t, l, put("a", "bc"), pack(own...))
		wantFile(t, d, 1, text)
		open(t, d, own...)
	}
}

// P17.4: ErrFull for a log that is not begun, which is not begun then.
func TestCompactOfNothingOnFullDisk(t *testing.T) {
	for limit := 1; limit <= 21; limit++ {
		d := newDisk(t, limit)
		l := open(t, d)
		if limit == 21 {
			run(t, l, pack("x"))
			wantFile(t, d, 1, states1+frameX)
			break
		}
		run(t, l, pack("x").gives(api.ErrFull), firm())
		wantNoFile(t, d)
		if d.Steps() != 0 {
			t.Errorf("limit %d: %d steps", limit, d.Steps())
		}
		if limit >= 12 {
			run(t, l, pack())
			wantFile(t, d, 1, states0)
		}
	}
	d := newDisk(t, 21)
	l := open(t, d)
	run(t, l, pack("bc").gives(api.ErrFull), put("a"))
	wantFile(t, d, 0, states0+frameA)
}

// P17.4: behind file 65535 is none: Compact returns the disk's ErrArg, no step is done, and the log goes on as it was.
func TestCompactOfLastFile(t *testing.T) {
	for _, limit := range []int{100, 21} {
		d := newDisk(t, limit, add(65535, laid(1, "a")))
		l := open(t, d, "a")
		run(t, l, pack("x").gives(api.ErrArg), pack().gives(api.ErrArg), firm())
		if limit == 100 {
			run(t, l, put("bc"), firm(), pack().gives(api.ErrArg))
			wantFile(t, d, 65535, states1+frameA+frameBC)
			open(t, d, "a", "bc")
		} else {
			run(t, l, put("bc").gives(api.ErrFull))
			wantFile(t, d, 65535, states1+frameA)
		}
	}
	d := newDisk(t, 100, add(65534, laid(0)))
	l := open(t, d)
	run(t, l, pack("x"), pack("y").gives(api.ErrArg), put("a"), firm())
	d.Crash()
	wantFile(t, d, 65535, states1+frameX+frameA)
	open(t, d, "x", "a")
}

// P17.4: what Open finds when the disk died at each step of a Compact, with each number of bytes that remain.
func TestCompactWhenTheDiskDies(t *testing.T) {
	text := states1 + frameX
	for _, c := range []struct {
		ahead []call
		old   []string
	}{
		{calls(), nil},
		{calls(put("a", "bc"), firm()), []string{"a", "bc"}},
		{calls(pack("a", "bc")), []string{"a", "bc"}},
		{calls(pack(), put("a"), firm()), []string{"a"}},
	} {
		for n := 1; n <= 3; n++ {
			for keep := range len(text) + 1 {
				d, l := begin(t, c.ahead...)
				do(t, d, arm(n))
				run(t, l, pack("x").gives(api.ErrDead))
				d.Crash(keep)
				want := c.old
				if n == 3 || keep == len(text) {
					want = []string{"x"}
				}
				open(t, d, want...)
				d.Crash()
				l = open(t, d, want...)
				run(t, l, put("y"), firm())
				open(t, d, append(slices.Clone(want), "y")...)
			}
		}
	}
}

// P17.4: a number of records that is not reached because bytes are lost: not even the records that remain are taken.
func TestCompactIsWholeOrNothing(t *testing.T) {
	text := laid(3, "x", "y", "d")
	for keep := range len(text) + 1 {
		for _, more := range []int{0, 1, 9} {
			d, l := begin(t, put("a"), firm(), put("bc"))
			do(t, d, arm(2))
			run(t, l, pack("x", "y", "d").gives(api.ErrDead))
			d.Crash(more, keep)
			if keep == len(text) {
				open(t, d, "x", "y", "d")
			} else {
				open(t, d, "a")
			}
		}
	}
}

// P17.4: an old file is dropped whatever else is on the disk, and nothing else is.
func TestCompactDropsOneFile(t *testing.T) {
	d, l := begin(t, put("a"))
	do(t, d, add(7, "x"), add(2, "y"))
	run(t, l, pack("x"))
	if files := d.Files(); !slices.Equal(files, []int{1, 2, 7}) {
		t.Errorf("files %v", files)
	}
	if l, own, e := seglog.Open(d); l == nil || !slices.Equal(own, []string{"x"}) || e != api.OK {
		t.Errorf("Open is %q, %d", own, e)
	}
	wantFile(t, d, 1, states1+frameX)
}
