package seglog_test

import (
	"fmt"
	"math/rand"
	"slices"
	"strings"
	"testing"

	"vitrine/api"
	"vitrine/disk"
	"vitrine/seglog"
)

// inLog is a scene with a disk, its log, and calls that were done on it.
func inLog(list ...call) scene {
	return func(t *testing.T) (*disk.Disk, *seglog.Log) { return begin(t, list...) }
}

// fromDisk is a scene with the log that was opened on a disk on which steps were done.
func fromDisk(list ...step) scene {
	return func(t *testing.T) (*disk.Disk, *seglog.Log) {
		d := newDisk(t, 1000, list...)
		l, _, e := seglog.Open(d)
		if e != api.OK {
			t.Fatalf("Open is %d", e)
		}
		return d, l
	}
}

// P17.2: what stands on the disk, byte by byte, behind the first Append and behind later ones.
func TestAppend(t *testing.T) {
	d, l := begin(t)
	for i, c := range []struct {
		records []string
		want    string
	}{
		{[]string{"a", "bc"}, states0 + frameA + frameBC},
		{[]string{"d"}, states0 + frameA + frameBC + frameD},
		{nil, states0 + frameA + frameBC + frameD},
		{[]string{"a", "a", "x"}, states0 + frameA + frameBC + frameD + frameA + frameA + frameX},
		{[]string{"\x00\x00\x00\x00"}, states0 + frameA + frameBC + frameD + frameA + frameA + frameX + states0},
		{[]string{"y"}, states0 + frameA + frameBC + frameD + frameA + frameA + frameX + states0 + frameY},
	} {
		run(t, l, put(c.records...))
		wantFile(t, d, 0, c.want)
		if t.Failed() {
			t.Fatalf("Append %d", i)
		}
	}
	if d.Steps() != 5 {
		t.Errorf("%d steps", d.Steps())
	}
	open(t, d, "a", "bc", "d", "a", "a", "x", "\x00\x00\x00\x00", "y")
}

// P17.2: no records are appended in no step; a log that is not begun is not begun then.
func TestAppendOfNoRecords(t *testing.T) {
	d, l := begin(t)
	for range 3 {
		run(t, l, put())
		run(t, l, call{"Append of an empty list", func(l *seglog.Log) api.Errno { return l.Append([]string{}...) }, api.OK})
	}
	wantNoFile(t, d)
	if d.Steps() != 0 {
		t.Errorf("%d steps", d.Steps())
	}
	run(t, l, put("a"), put(), put("bc"), put())
	wantFile(t, d, 0, states0+frameA+frameBC)
	if d.Steps() != 2 {
		t.Errorf("%d steps", d.Steps())
	}
	wantSteps(t, inLog(), "no records, not begun", callIs(put()))
	wantSteps(t, inLog(put("a")), "no records, begun", callIs(put()))
	wantSteps(t, inLog(pack()), "no records, compacted", callIs(put()))
}

// P17.2: a log that is opened on a valid file is begun, whatever its number.
func TestAppendToOpenedFile(t *testing.T) {
	for _, file := range []int{0, 1, 7, 65535} {
		for text, own := range map[string][]string{states0: nil, states1 + frameX: {"x"}, states1 + frameX + frameY + "tail": {"x", "y"}} {
			d := newDisk(t, 1000, add(file, text))
			run(t, open(t, d, own...), put("a"), put("bc", "d"))
			wantFile(t, d, file, strings.TrimSuffix(text, "tail")+frameA+frameBC+frameD)
		}
	}
}

// P17.2: an Append of any records is one step of the disk; the first one has the frame of 4 zero bytes ahead of them.
func TestStepsOfAppend(t *testing.T) {
	for _, c := range []struct {
		records []string
		frames  string
	}{
		{[]string{"a"}, frameA},
		{[]string{"bc", "a"}, frameBC + frameA},
		{[]string{"\x00\x00\x00\x00"}, states0},
		{[]string{"a", "a", "a", "a", "a"}, strings.Repeat(frameA, 5)},
		{[]string{strings.Repeat("é", 10)}, framed(strings.Repeat("é", 10))},
	} {
		one := callIs(put(c.records...))
		name := fmt.Sprintf("Append(%q)", c.records)
		wantSteps(t, inLog(), name+" first", one, add(0, states0+c.frames))
		wantSteps(t, inLog(put("x")), name+" behind one", one, add(0, c.frames))
		wantSteps(t, inLog(put("x"), firm()), name+" behind one that is synced", one, add(0, c.frames))
		wantSteps(t, inLog(pack()), name+" behind a Compact", one, add(1, c.frames))
		wantSteps(t, fromDisk(add(9, laid(0))), name+" to a file", one, add(9, c.frames))
		wantSteps(t, fromDisk(add(9, laid(1)), add(3, "x")), name+" to no file", one, add(0, states0+c.frames))
	}
}

// P17.2, P17.4: a log knows its file, and whether it is begun, by its own calls, whatever else is done on the disk.
func TestLogKnowsItsFile(t *testing.T) {
	d, l := begin(t, put("a"))
	do(t, d, drop(0))
	run(t, l, put("bc"))
	wantFile(t, d, 0, frameBC)
	d, l = begin(t)
	do(t, d, add(0, "x"))
	run(t, l, put("a"))
	wantFile(t, d, 0, "x"+states0+frameA)
	d, l = begin(t, put("a"))
	do(t, d, add(1, "x"))
	run(t, l, pack("y"))
	wantFile(t, d, 1, "x"+states1+frameY)
}

// P17.2: records of all lengths up to some, and of the greatest.
func TestAppendOfEachLength(t *testing.T) {
	rnd := rand.New(rand.NewSource(172))
	var records []string
	for n := 1; n <= 600; n++ {
		records = append(records, noise(rnd, n))
	}
	records = append(records, noise(rnd, 65535), noise(rnd, 65536), noise(rnd, 65537), noise(rnd, most-1), noise(rnd, most), long(most), "a")
	d := newDisk(t, 1<<24)
	run(t, open(t, d), put(records...))
	wantFile(t, d, 0, laid(0)+framed(records...))
	open(t, d, records...)
	if d.Steps() != 2 {
		t.Errorf("%d steps", d.Steps())
	}
	d = newDisk(t, 1<<24)
	l := open(t, d)
	for _, r := range records {
		run(t, l, put(r))
	}
	wantFile(t, d, 0, laid(0)+framed(records...))
	open(t, d, records...)
}

// P17.2: each byte may be one of a record, at each place.
func TestAppendOfEachByte(t *testing.T) {
	var records []string
	for b := range 256 {
		one := string([]byte{byte(b)})
		records = append(records, one, one+"x", "x"+one, strings.Repeat(one, 9), one+"\x00\x00\x00"+one)
	}
	d, l := begin(t, put(records...))
	wantFile(t, d, 0, laid(0)+framed(records...))
	open(t, d, records...)
	run(t, l, pack(records...))
	wantFile(t, d, 1, laid(uint32(len(records)), records...))
	open(t, d, records...)
}

// P17.2: many records in one Append.
func TestAppendOfMany(t *testing.T) {
	for _, n := range []int{255, 256, 65536, 100000} {
		records := slices.Repeat([]string{"a"}, n)
		d, _ := begin(t, put(records...))
		wantFile(t, d, 0, states0+strings.Repeat(frameA, n))
		open(t, d, records...)
		if d.Steps() != 2 {
			t.Errorf("%d steps", d.Steps())
		}
	}
}

// wrongLists are lists of which one or more are no records.
func wrongLists() [][]string {
	tooLong := long(most + 1)
	return [][]string{
		{""}, {"", ""}, {"a", ""}, {"", "a"}, {"a", "", "bc"}, {"a", "bc", "d", ""}, slices.Concat(slices.Repeat([]string{"a"}, 1000), []string{""}, slices.Repeat([]string{"a"}, 1000)),
		{tooLong}, {"a", tooLong}, {tooLong, "a"}, {"a", tooLong, "bc"}, {"", tooLong}, {tooLong, ""}, {long(2 * most)}, {long(most), tooLong},
	}
}

// P17.2, P17.4: among what is handed in is no record: nothing is appended, and the log goes on as it was.
func TestNoRecord(t *testing.T) {
	for _, list := range wrongLists() {
		for _, wrong := range calls(put(list...), pack(list...)) {
			d := newDisk(t, 1<<24)
			l := open(t, d)
			run(t, l, wrong.gives(api.ErrArg))
			wantNoFile(t, d)
			run(t, l, firm(), put("a"), wrong.gives(api.ErrArg), wrong.gives(api.ErrArg))
			wantFile(t, d, 0, states0+frameA)
			run(t, l, put("bc"), firm(), wrong.gives(api.ErrArg))
			wantFile(t, d, 0, states0+frameA+frameBC)
			run(t, l, pack("x"), wrong.gives(api.ErrArg), put("y"))
			wantFile(t, d, 1, states1+frameX+frameY)
			if d.Steps() != 7 || d.Dead() {
				t.Errorf("%d steps, dead: %t", d.Steps(), d.Dead())
			}
			if t.Failed() {
				t.Fatalf("with %s", wrong.text)
			}
		}
	}
}

// P17.2: a disk that is full by one byte, and one that just holds what is appended; the log is not begun yet.
func TestAppendToFullDiskFirst(t *testing.T) {
	size := len(states0 + frameA + frameBC)
	for limit := 1; limit < size; limit++ {
		d := newDisk(t, limit)
		l := open(t, d)
		run(t, l, put("a", "bc").gives(api.ErrFull), put("a", "bc").gives(api.ErrFull))
		wantNoFile(t, d)
		run(t, l, firm(), put())
		if d.Steps() != 0 {
			t.Errorf("limit %d: %d steps", limit, d.Steps())
		}
		if limit < len(states0+frameA) {
			continue
		}
		run(t, l, put("a"), put("bc").gives(api.ErrFull))
		wantFile(t, d, 0, states0+frameA)
		open(t, d, "a")
	}
	d := newDisk(t, size)
	l := open(t, d)
	run(t, l, put("a", "bc"), put("a").gives(api.ErrFull), firm())
	wantFile(t, d, 0, states0+frameA+frameBC)
	open(t, d, "a", "bc")
	d = newDisk(t, size+5, add(1, "other"))
	do(t, d, drop(1))
	l = open(t, d)
	do(t, d, add(1, "others"))
	run(t, l, put("a", "bc").gives(api.ErrFull))
	do(t, d, cut(1, 5))
	run(t, l, put("a", "bc"))
}

// P17.2: the same for a log that is begun: it is unchanged, and takes what fits.
func TestAppendToFullDiskLater(t *testing.T) {
	first := states0 + frameX
	for _, ahead := range [][]call{calls(put("x")), calls(put("x"), firm())} {
		for room := range len(frameA+frameBC) + 3 {
			d := newDisk(t, len(first)+room)
			l := open(t, d)
			run(t, l, ahead...)
			steps := d.Steps()
			if room < len(frameA+frameBC) {
				run(t, l, put("a", "bc").gives(api.ErrFull))
				wantFile(t, d, 0, first)
				if d.Steps() != steps {
					t.Errorf("room %d: %d steps", room, d.Steps()-steps)
				}
				if room >= len(frameD) {
					run(t, l, put("d"))
					wantFile(t, d, 0, first+frameD)
				} else {
					run(t, l, put("d").gives(api.ErrFull), firm())
					wantFile(t, d, 0, first)
				}
			} else {
				run(t, l, put("a", "bc"))
				wantFile(t, d, 0, first+frameA+frameBC)
				if d.Steps() != steps+1 {
					t.Errorf("room %d: %d steps", room, d.Steps()-steps)
				}
			}
		}
	}
}

// P17.2: the longest record on disks that hold it, and that lack a byte for it.
func TestAppendOfLongestToFullDisk(t *testing.T) {
	d := newDisk(t, 12+8+most)
	l := open(t, d)
	run(t, l, put(long(most)))
	wantFile(t, d, 0, states0+"\x00\x0f\x42\x40\x9e\xee\x34\xb2"+long(most))
	open(t, d, long(most))
	d = newDisk(t, 12+8+most-1)
	l = open(t, d)
	run(t, l, put(long(most)).gives(api.ErrFull))
	wantNoFile(t, d)
	run(t, l, put(long(most-1)))
	open(t, d, long(most-1))
}

// P17.2, P17.3: a Sync of a log that is begun is a step that syncs its file; of one that is not it is nothing.
func TestSync(t *testing.T) {
	one := callIs(firm())
	wantSteps(t, inLog(), "Sync of nothing", one)
	wantSteps(t, inLog(put()), "Sync behind no records", one)
	wantSteps(t, inLog(put("").gives(api.ErrArg), pack("").gives(api.ErrArg)), "Sync behind what is wrong", one)
	wantSteps(t, fromDisk(add(3, "x")), "Sync of a disk without a valid file", one)
	wantSteps(t, inLog(put("a")), "Sync of a record", one, fix(0))
	wantSteps(t, inLog(put("a"), firm()), "Sync again", one, fix(0))
	wantSteps(t, inLog(put("a"), firm(), put("bc")), "Sync of one more", one, fix(0))
	wantSteps(t, inLog(put("a"), pack()), "Sync behind Compact", one, fix(1))
	wantSteps(t, inLog(pack("x"), put("a")), "Sync behind Compact and Append", one, fix(1))
	wantSteps(t, inLog(pack("x"), pack(), pack(), put("a")), "Sync of file 3", one, fix(3))
	wantSteps(t, fromDisk(add(9, laid(0))), "Sync of an opened file", one, fix(9))
	wantSteps(t, fromDisk(add(0, laid(1, "a")+"x")), "Sync of an opened file", one, fix(0))
}

// P17.3: a log that is not begun is not synced, though something stands in file 0, and though the disk is dead.
func TestSyncOfNothing(t *testing.T) {
	d, l := begin(t)
	do(t, d, add(0, "x"))
	run(t, l, firm())
	do(t, d, arm(1))
	run(t, l, firm(), firm())
	do(t, d, fix(5).gives(api.ErrDead))
	run(t, l, firm(), put())
	do(t, d, crash())
	wantFile(t, d, 0, "")
	run(t, l, firm(), put("a"))
	wantFile(t, d, 0, states0+frameA)
}

// P17.3: what was synced remains behind each crash; what was appended since may be lost from its end on.
func TestSyncedRemains(t *testing.T) {
	for keep := range len(frameD+frameX) + 1 {
		d, l := begin(t, put("a"), put("bc"), firm(), put("d"), put("x"))
		d.Crash(keep)
		wantFile(t, d, 0, states0+frameA+frameBC+(frameD + frameX)[:keep])
		l = open(t, d, []string{"a", "bc", "d", "x"}[:2+keep/9]...)
		run(t, l, put("y"))
		open(t, d, append([]string{"a", "bc", "d", "x"}[:2+keep/9], "y")...)
	}
	for keep := range len(states0+frameA+frameBC) + 1 {
		d, _ := begin(t, put("a", "bc"))
		d.Crash(keep)
		n := 0
		if keep >= 21 {
			n++
		}
		if keep >= 31 {
			n++
		}
		open(t, d, []string{"a", "bc"}[:n]...)
	}
}

// P17.1, P17.2: a crash of which the log knows nothing: a log that lives goes on where the file ends.
func TestLogGoesOnBehindCrash(t *testing.T) {
	d, l := begin(t, put("a"), firm(), put("bc"))
	d.Crash()
	run(t, l, put("d"), firm())
	wantFile(t, d, 0, states0+frameA+frameD)
	d, l = begin(t)
	d.Crash()
	run(t, l, put("a"))
	wantFile(t, d, 0, states0+frameA)
}
