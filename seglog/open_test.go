package seglog_test

import (
	"fmt"
	"math/rand"
	"slices"
	"strings"
	"testing"

	"vitrine/api"
	"vitrine/disk"
	"vitrine/seglog"
)

// P17.1: no disk.
func TestOpenOfNil(t *testing.T) {
	wantNoLog(t, nil, api.ErrNil)
}

// P17.1: a dead disk, whatever is on it; nothing happens to it, and it is opened behind a crash.
func TestOpenOfDeadDisk(t *testing.T) {
	for _, ahead := range [][]step{
		steps(),
		steps(add(0, laid(1, "a")), fix(0)),
		steps(add(3, laid(0)+"more"), fix(3), add(1, "x"), fix(1)),
	} {
		d := newDisk(t, 100, append(ahead, arm(1), fix(9).gives(api.ErrDead))...)
		files, size := d.Files(), d.Size()
		for range 3 {
			wantNoLog(t, d, api.ErrDead)
		}
		if !slices.Equal(d.Files(), files) || d.Size() != size || d.Steps() != len(ahead)+1 || !d.Dead() {
			t.Errorf("files %v, %d bytes, %d steps, dead: %t", d.Files(), d.Size(), d.Steps(), d.Dead())
		}
		d.Crash()
		if l, _, e := seglog.Open(d); l == nil || e != api.OK {
			t.Errorf("Open behind the crash is %t, %d", l != nil, e)
		}
	}
}

// P17.1: an empty disk has a log without records, whose file is 0 and does not exist.
func TestOpenOfEmptyDisk(t *testing.T) {
	d := newDisk(t, 100)
	for range 3 {
		open(t, d)
	}
	wantNoFile(t, d)
	if d.Steps() != 0 {
		t.Errorf("%d steps", d.Steps())
	}
	run(t, open(t, d), put("a"))
	wantFile(t, d, 0, states0+frameA)
	d = newDisk(t, 100, add(0, "x"), drop(0), add(7, laid(0)), drop(7))
	run(t, open(t, d), put("a"))
	wantFile(t, d, 0, states0+frameA)
}

// P17.1: a disk that is not from disk.New is empty.
func TestOpenOfDiskWithoutRoom(t *testing.T) {
	l := open(t, &disk.Disk{})
	run(t, l, put(), firm(), put("a").gives(api.ErrFull), pack().gives(api.ErrFull))
}

// notValid is texts of files that are not valid.
func notValid() []string {
	list := []string{
		"", "\x00", "a", strings.Repeat("\x00", 8), strings.Repeat("\x00", 12), strings.Repeat("\xff", 40), noise(rand.New(rand.NewSource(1)), 100),
		be(4) + be(0x2144df1c),                      // no byte of a record of 4 bytes
		be(0) + be(0),                               // a length of 0, with the sum of no bytes
		be(0) + be(0) + states0,                     // and a right frame behind it
		be(0) + be(0x2144df1c) + "\x00\x00\x00\x00", // a length of 0, with the sum of what follows
		be(1000000) + be(0) + "\x00\x00\x00\x00",
		be(1000001) + be(0x2144df1c) + "\x00\x00\x00\x00",
		be(1<<32-1) + be(0x2144df1c) + "\x00\x00\x00\x00",
		be(1<<31) + be(0x2144df1c) + "\x00\x00\x00\x00",
		"\x04\x00\x00\x00\x21\x44\xdf\x1c\x00\x00\x00\x00", // the lowest byte of the length first
		"\x00\x00\x00\x04\x1c\xdf\x44\x21\x00\x00\x00\x00", // the lowest byte of the sum first
		framed("\x01\x00\x00\x00", "a", "bc"),              // the lowest byte of the number first
		framed("\x01\x00\x00\x00"),
		framed("\x00\x00\x00"),         // a first record of 3 bytes
		framed("\x00\x00\x00", "a"),    // and a record behind it
		framed("\x00\x00\x00\x00\x00"), // a first record of 5 bytes
		framed("\x00\x00\x00\x00\x00", "a"),
		framed("\x00"), framed("a"), framed("a", "\x00\x00\x00\x00"), framed(strings.Repeat("\x00", 8)),
		laid(1), laid(2), laid(2, "a"), laid(3, "a", "bc"), laid(256, "a"), laid(1<<16, "a"), laid(1<<24, "a"), laid(1<<31, "a"), laid(1 << 31), laid(1<<32 - 1), laid(1<<32-1, "a", "bc"),
		laid(1, ""), laid(1, "", "a"), laid(1, long(most+1)),
		"x" + laid(0), "\x00" + laid(0), laid(1) + "x" + framed("a"),
	}
	for _, right := range []string{laid(0), laid(1, "a"), laid(2, "a", "bc"), laid(1, "\x00\x00\x00\x00")} {
		for n := range len(right) { // what is missing: the last bytes, the first ones, one in the middle
			list = append(list, right[:n])
			if n > 0 {
				list = append(list, right[n:])
			}
			if n < 12 {
				list = append(list, right[:n]+right[n+1:])
			}
		}
		for at := range right {
			for bit := range 8 {
				b := []byte(right)
				b[at] ^= 1 << bit
				list = append(list, string(b))
			}
		}
	}
	// Some of these are valid all the same: laid(0) without what is behind it, and so on.
	return slices.DeleteFunc(list, func(text string) bool {
		return strings.HasPrefix(text, laid(0)) || strings.HasPrefix(text, laid(1, "\x00\x00\x00\x00"))
	})
}

// P17.1: files that are not valid are dropped, each in a step, and the log begins in file 0.
func TestOpenOfFilesThatAreNotValid(t *testing.T) {
	texts := notValid()
	if len(texts) < 900 {
		t.Fatalf("only %d texts", len(texts))
	}
	for _, text := range texts {
		for _, file := range []int{0, 1, 65535} {
			d := newDisk(t, 2*most, add(file, text), fix(file))
			l := open(t, d)
			wantNoFile(t, d)
			if d.Steps() != 3 {
				t.Errorf("%d steps", d.Steps())
			}
			run(t, l, put("a"))
			wantFile(t, d, 0, states0+frameA)
			if t.Failed() {
				t.Fatalf("of file %d with %.100q", file, text)
			}
		}
	}
	all := newDisk(t, 1<<24)
	for i, text := range texts {
		do(t, all, add(65535-i, text))
	}
	open(t, all)
	wantNoFile(t, all)
	if all.Steps() != 2*len(texts) {
		t.Errorf("%d steps for %d files", all.Steps(), len(texts))
	}
}

// P17.1: one valid file is the log's, whatever its number; its own records are those behind the first one.
func TestOpenOfOneValidFile(t *testing.T) {
	for _, file := range []int{0, 1, 2, 255, 256, 65534, 65535} {
		for _, c := range []struct {
			text string
			own  []string
		}{
			{states0, nil},
			{states0 + frameA, []string{"a"}},
			{states0 + frameA + frameBC, []string{"a", "bc"}},
			{states1 + frameA, []string{"a"}},
			{states1 + frameA + frameBC, []string{"a", "bc"}},
			{states2 + frameA + frameBC, []string{"a", "bc"}},
			{states2 + frameA + frameBC + frameD + frameA, []string{"a", "bc", "d", "a"}},
			{states3 + frameA + frameA + frameA, []string{"a", "a", "a"}},
			{states0 + states0, []string{"\x00\x00\x00\x00"}},
			{states1 + states2, []string{"\x00\x00\x00\x02"}},
			{laid(1, "\xff\xff\xff\xff"), []string{"\xff\xff\xff\xff"}},
			{laid(300, slices.Repeat([]string{"é"}, 300)...), slices.Repeat([]string{"é"}, 300)},
			{laid(256, slices.Repeat([]string{"\x00"}, 257)...), slices.Repeat([]string{"\x00"}, 257)},
		} {
			d := newDisk(t, 10000, add(file, c.text), fix(file))
			l := open(t, d, c.own...)
			wantFile(t, d, file, c.text)
			if d.Steps() != 3 {
				t.Errorf("%d steps", d.Steps())
			}
			open(t, d, c.own...)
			run(t, l, put("d"))
			wantFile(t, d, file, c.text+frameD)
			open(t, d, append(c.own, "d")...)
			if t.Failed() {
				t.Fatalf("of file %d with %.100q", file, c.text)
			}
		}
	}
}

// P17.1: fewer records than the first one states are too few, as many and more are not, whatever the number.
func TestNumberOfRecords(t *testing.T) {
	for states := range 20 {
		for n := range 23 {
			records := strings.Split(strings.Repeat("r", n), "")
			text := laid(uint32(states), records...)
			d := newDisk(t, 1000, add(5, text))
			if n < states {
				open(t, d)
				wantNoFile(t, d)
			} else {
				open(t, d, records...)
				wantFile(t, d, 5, text)
			}
		}
	}
	for _, n := range []int{255, 256, 257, 65535, 65536} {
		text := laid(uint32(n)) + strings.Repeat(frameX, n)
		open(t, newDisk(t, most, add(0, text)), slices.Repeat([]string{"x"}, n)...)
		open(t, newDisk(t, most, add(0, text[:len(text)-1])))
		open(t, newDisk(t, most, add(0, text+frameX)), slices.Repeat([]string{"x"}, n+1)...)
	}
}

// P17.1: the longest record is one, and a longer one is none.
func TestLongestRecord(t *testing.T) {
	longest := "\x00\x0f\x42\x40\x9e\xee\x34\xb2" + long(most)
	for _, text := range []string{states0 + longest, states1 + longest, states1 + longest + "\x00", states1 + longest + frameA} {
		own := []string{long(most)}
		if strings.HasSuffix(text, frameA) {
			own = append(own, "a")
		}
		open(t, newDisk(t, 2*most, add(0, text)), own...)
	}
	for _, wrong := range []string{framed(long(most + 1)), longest[:len(longest)-1], framed(strings.Repeat("z", 2*most))} {
		d := newDisk(t, 4*most, add(0, states1+wrong+frameA))
		open(t, d)
		wantNoFile(t, d)
		d = newDisk(t, 4*most, add(0, states1+frameA+wrong+frameBC))
		open(t, d, "a")
		wantFile(t, d, 0, states1+frameA)
	}
}

// tails is what can follow the last record of a file.
func tails() []string {
	list := []string{
		"\x00", "x", strings.Repeat("\x00", 8), strings.Repeat("\x00", 100), strings.Repeat("\xff", 9),
		be(0) + be(0) + frameA, be(1) + be(0) + "a" + frameA, be(1000001) + be(0) + frameA, be(1<<32-1) + be(0) + frameA,
		"x" + frameA, "\x00" + frameA + frameBC, framed("") + frameA, frameA[:8] + "b" + frameA,
	}
	for n := 1; n < len(frameA); n++ {
		list = append(list, frameA[:n], frameA[n:])
	}
	for n := 1; n < len(frameBC); n++ {
		list = append(list, frameBC[:n]+frameBC[n+1:])
	}
	return list
}

// P17.1: bytes behind the last record are cut off, and what is appended then stands right behind it.
func TestOpenWithBytesBehind(t *testing.T) {
	for _, tail := range tails() {
		for _, c := range []struct {
			text string
			own  []string
		}{
			{states0, nil},
			{states0 + frameD, []string{"d"}},
			{states1 + frameD, []string{"d"}},
			{states2 + frameD + frameD + frameX, []string{"d", "d", "x"}},
		} {
			for _, file := range []int{0, 3} {
				d := newDisk(t, 1000, add(file, c.text+tail), fix(file))
				l := open(t, d, c.own...)
				wantFile(t, d, file, c.text)
				if d.Steps() != 4 {
					t.Errorf("%d steps", d.Steps())
				}
				open(t, d, c.own...)
				if d.Steps() != 5 {
					t.Errorf("%d steps", d.Steps())
				}
				run(t, l, put("bc"))
				wantFile(t, d, file, c.text+frameBC)
				open(t, d, append(c.own, "bc")...)
				if t.Failed() {
					t.Fatalf("%q behind %q", tail, c.text)
				}
			}
		}
	}
}

// P17.1: of several valid files the one with the greatest number counts, whatever stands in the others.
func TestGreatestValidFile(t *testing.T) {
	others := []string{
		"", "x", laid(0), laid(0, "other"), laid(1, "other"), laid(2, "other", "one") + "tail", laid(2, "other"), laid(100, "other"), framed("abc", "other"),
		laid(3, "other", "other", "other", "other", "other", "other"),
	}
	bad := slices.DeleteFunc(slices.Clone(others), func(text string) bool {
		records, _ := recordsOf(text)
		return len(records) > 0 && len(records[0]) == 4 && len(records)-1 >= int(records[0][3])
	})
	if len(bad) != 5 {
		t.Fatalf("%d texts are not valid", len(bad))
	}
	for _, own := range [][]string{nil, {"a"}, {"a", "bc"}} {
		text := laid(uint32(len(own)/2), own...)
		for _, below := range others {
			for _, above := range bad {
				d := newDisk(t, 1000, add(9, above), add(7, text), add(2, below), add(0, below), add(65535, above), add(8, above), add(6, below))
				open(t, d, own...)
				wantFile(t, d, 7, text)
				if t.Failed() {
					t.Fatalf("of %q below, %q above", below, above)
				}
			}
		}
	}
}

// P17.1: each of several files may be the one that counts, and the log goes on in it.
func TestGreatestOfMany(t *testing.T) {
	numbers := []int{0, 1, 2, 9, 10, 99, 100, 255, 256, 1000, 9999, 10000, 65534, 65535}
	for which, file := range numbers {
		d := newDisk(t, 10000)
		for i, number := range numbers {
			text := laid(1, fmt.Sprint("of ", number))
			if i > which {
				text = text[:len(text)-1]
			}
			do(t, d, add(number, text))
		}
		l := open(t, d, fmt.Sprint("of ", file))
		wantFile(t, d, file, laid(1, fmt.Sprint("of ", file)))
		run(t, l, put("a"))
		wantFile(t, d, file, laid(1, fmt.Sprint("of ", file))+frameA)
	}
}

// onDisk is a scene with a disk on which steps were done, and no log.
func onDisk(list ...step) scene {
	return func(t *testing.T) (*disk.Disk, *seglog.Log) { return newDisk(t, 1000, list...), nil }
}

// P17.1: the steps of Open: the other files are dropped in increasing order, then bytes behind the last record are cut off, then the file is synced.
// Where a step is to be seen though it has no effect on a file that is synced, the number of the steps tells it.
func TestStepsOfOpen(t *testing.T) {
	ab := laid(1, "a", "bc")
	for i, c := range []struct {
		ahead []step
		own   []string
		want  []step
	}{
		{steps(), nil, steps()},
		{steps(add(0, "x")), nil, steps(drop(0))},
		{steps(add(0, "")), nil, steps(drop(0))},
		{steps(add(0, "x"), fix(0)), nil, steps(drop(0))},
		{steps(add(2, "x"), add(0, "yz"), fix(0), add(65535, "v"), add(1, "")), nil, steps(drop(0), drop(1), drop(2), drop(65535))},
		{steps(add(4, laid(1)), add(3, laid(2, "a")), fix(3)), nil, steps(drop(3), drop(4))},

		{steps(add(0, ab)), []string{"a", "bc"}, steps(fix(0))},
		{steps(add(0, ab), fix(0)), []string{"a", "bc"}, steps(fix(0))},
		{steps(add(0, ab[:12]), fix(0), add(0, ab[12:])), []string{"a", "bc"}, steps(fix(0))},
		{steps(add(65535, ab)), []string{"a", "bc"}, steps(fix(65535))},
		{steps(add(0, laid(0))), nil, steps(fix(0))},

		{steps(add(0, ab+"x")), []string{"a", "bc"}, steps(cut(0, 31), fix(0))},
		{steps(add(0, ab+"x"), fix(0)), []string{"a", "bc"}, steps(cut(0, 31), fix(0))},
		{steps(add(0, ab), fix(0), add(0, "0123456789")), []string{"a", "bc"}, steps(cut(0, 31), fix(0))},
		{steps(add(6, laid(0)+"x")), nil, steps(cut(6, 12), fix(6))},

		{steps(add(0, laid(0)), add(1, ab)), []string{"a", "bc"}, steps(drop(0), fix(1))},
		{steps(add(1, "x"), add(0, ab)), []string{"a", "bc"}, steps(drop(1), fix(0))},
		{steps(add(1, "xyz"), fix(1), add(0, ab+"x")), []string{"a", "bc"}, steps(drop(1), cut(0, 31), fix(0))},
		{steps(add(3, ab), add(5, "x"), add(4, laid(1)), add(2, laid(0, "old")), add(0, "")), []string{"a", "bc"}, steps(drop(0), drop(2), drop(4), drop(5), fix(3))},
		{steps(add(3, ab+frameA[:8]), add(5, "x"), fix(5), add(2, laid(0, "old")), fix(2)), []string{"a", "bc"}, steps(drop(2), drop(5), cut(3, 31), fix(3))},
		{steps(add(65535, ab+"12"), add(10, "x"), add(9, "y"), add(100, "z")), []string{"a", "bc"}, steps(drop(9), drop(10), drop(100), cut(65535, 31), fix(65535))},
	} {
		wantSteps(t, onDisk(c.ahead...), fmt.Sprintf("Open, case %d", i), openIs(c.own...), c.want...)
	}
}

// P17.1: Open returns the error of the disk at whatever step it dies, with nothing beside it; behind a crash the log is opened.
func TestOpenWhenTheDiskDies(t *testing.T) {
	for n := 1; n <= 6; n++ {
		d := newDisk(t, 1000, add(3, laid(1, "a")+"tail"), add(5, "x"), add(4, laid(1)), add(2, laid(0, "old")))
		before := d.Steps()
		d.Arm(n)
		if n == 6 {
			open(t, d, "a")
			break
		}
		wantNoLog(t, d, api.ErrDead)
		if d.Steps() != before+n || !d.Dead() {
			t.Errorf("%d steps, dead: %t", d.Steps()-before, d.Dead())
		}
		wantNoLog(t, d, api.ErrDead)
		d.Crash(all, all, all)
		open(t, d, "a")
		wantFile(t, d, 3, laid(1, "a"))
	}
}

// P17.1: behind Open all is synced: whatever crashes, nothing of it is lost.
func TestOpenSyncs(t *testing.T) {
	for _, tail := range []string{"", "x", frameA[:8]} {
		for _, loose := range []int{0, 1, 12, 13, 20} {
			text := laid(1, "a", "bc") + tail
			d := newDisk(t, 1000, add(2, text[:loose]), fix(2), add(2, text[loose:]), add(0, "x"))
			open(t, d, "a", "bc")
			d.Crash()
			wantFile(t, d, 2, laid(1, "a", "bc"))
			open(t, d, "a", "bc")
		}
	}
}

// R2: the list that Open returned belongs to the caller.
func TestListOfOpenIsNew(t *testing.T) {
	d := newDisk(t, 1000, add(1, laid(1, "a", "bc", "d")), add(0, "x"))
	l, first, _ := seglog.Open(d)
	_, second, _ := seglog.Open(d)
	whole := first[:cap(first)]
	for i := range whole {
		whole[i] = "other"
	}
	if !slices.Equal(second, []string{"a", "bc", "d"}) {
		t.Errorf("another list is %q", second)
	}
	_ = append(second[:0], "1", "2", "3", "4")
	run(t, l, put("y"))
	wantFile(t, d, 1, states1+frameA+frameBC+frameD+frameY)
	_, third, _ := seglog.Open(d)
	run(t, l, pack("x"))
	do(t, d, drop(2))
	if !slices.Equal(third, []string{"a", "bc", "d", "y"}) {
		t.Errorf("a list from before is %q", third)
	}
}
