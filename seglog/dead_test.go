package seglog_test

import (
	"testing"

	"vitrine/api"
	"vitrine/seglog"
)

// P17.2, P17.3, P17.4: each call on a nil log, whatever it is given.
func TestNilLog(t *testing.T) {
	var l *seglog.Log
	list := calls(put(), put("a"), put("a", "bc"), put(""), put(long(most+1)), firm(), pack(), pack("a"), pack(""), pack("a", long(most+1)))
	for range 2 {
		for _, c := range list {
			run(t, l, c.gives(api.ErrNil))
		}
	}
}

// R1: a log that is not from Open has no disk, and does not panic.
func TestLogWithoutDisk(t *testing.T) {
	l := &seglog.Log{}
	run(t, l, put(), firm(), put("a").gives(api.ErrNil), pack("a").gives(api.ErrNil), put("").gives(api.ErrArg), pack("").gives(api.ErrArg), firm())
}

// afterDeath are calls of each kind, right and wrong ones.
func afterDeath() []call {
	return calls(put(), put("a"), put("", "a"), put(long(most+1)), firm(), pack(), pack("a"), pack(""), pack(long(most+1)))
}

// wantDeadLog wants that each call on a log returns ErrDead.
func wantDeadLog(t *testing.T, l *seglog.Log) {
	t.Helper()
	for range 2 {
		for _, c := range afterDeath() {
			run(t, l, c.gives(api.ErrDead))
		}
	}
}

// P17.2, P17.3, P17.4: once a call on a log has returned ErrDead, each one does, also behind a crash, and is no step.
func TestDeadLog(t *testing.T) {
	for _, ahead := range [][]call{calls(), calls(put("a")), calls(put("a"), firm()), calls(pack("a"))} {
		for _, last := range calls(put("bc"), firm(), pack(), pack("x", "y")) {
			for n := 1; n <= 3; n++ {
				if last.text == firm().text && (len(ahead) == 0 || n > 1) || last.text == put("bc").text && n > 1 {
					continue // the call has fewer steps
				}
				d, l := begin(t, ahead...)
				before := d.Steps()
				do(t, d, arm(n))
				run(t, l, last.gives(api.ErrDead))
				if d.Steps() != before+n || !d.Dead() {
					t.Fatalf("%s behind %s: %d steps, dead: %t", last.text, textOf(ahead), d.Steps()-before, d.Dead())
				}
				files, size := len(d.Files()), d.Size()
				wantDeadLog(t, l)
				if len(d.Files()) != files || d.Size() != size || d.Steps() != before+n {
					t.Errorf("%d files, %d bytes, %d steps", len(d.Files()), d.Size(), d.Steps()-before)
				}
				d.Crash(all, all)
				if size != d.Size() {
					t.Errorf("%d bytes, not %d", d.Size(), size)
				}
				wantDeadLog(t, l)
				if len(d.Files()) != files || d.Size() != size || d.Steps() != before+n || d.Dead() {
					t.Errorf("%d files, %d bytes, %d steps, dead: %t", len(d.Files()), d.Size(), d.Steps()-before, d.Dead())
				}
				other, _, e := seglog.Open(d)
				if e != api.OK {
					t.Fatalf("Open is %d", e)
				}
				run(t, other, put("y"), firm(), pack("x"))
				wantDeadLog(t, l)
				open(t, d, "x")
			}
		}
	}
}

// P17.2: an Append at which the disk dies: what Open finds then, with each number of bytes that remain.
func TestAppendWhenTheDiskDies(t *testing.T) {
	ends := []int{12, 21, 31}
	for keep := range len(states0+frameA+frameBC) + 1 {
		d, l := begin(t)
		do(t, d, arm(1))
		run(t, l, put("a", "bc").gives(api.ErrDead))
		d.Crash(keep)
		want := []string{}
		for i, own := range []string{"a", "bc"} {
			if keep >= ends[i+1] {
				want = append(want, own)
			}
		}
		other := open(t, d, want...)
		if keep < 12 {
			wantNoFile(t, d)
		}
		run(t, other, put("d"))
		open(t, d, append(want, "d")...)
		wantDeadLog(t, l)
	}
	for keep := range len(frameA+frameBC) + 1 {
		d, l := begin(t, put("x"), firm())
		do(t, d, arm(1))
		run(t, l, put("a", "bc").gives(api.ErrDead))
		d.Crash(keep)
		want := []string{"x"}
		if keep >= 9 {
			want = append(want, "a")
		}
		if keep >= 19 {
			want = append(want, "bc")
		}
		open(t, d, want...)
		wantDeadLog(t, l)
	}
}

// P17.3: a Sync at which the disk dies: what was not synced may be lost, or not.
func TestSyncWhenTheDiskDies(t *testing.T) {
	for keep := range len(frameBC) + 1 {
		d, l := begin(t, put("a"), firm(), put("bc"))
		do(t, d, arm(1))
		run(t, l, firm().gives(api.ErrDead))
		d.Crash(keep)
		if keep == len(frameBC) {
			open(t, d, "a", "bc")
		} else {
			open(t, d, "a")
		}
		wantFile(t, d, 0, states0+(frameA + frameBC)[:9+keep/10*10])
		wantDeadLog(t, l)
	}
}

// P17.2, P17.3, P17.4: a disk that died without the log, which learns it at its next step; no records and nothing to sync are none.
func TestDiskThatDiedUnseen(t *testing.T) {
	for _, ahead := range [][]call{calls(), calls(put("a"), firm()), calls(pack("a"))} {
		for _, last := range calls(put("bc"), pack(), pack("x"), firm()) {
			if last.text == firm().text && len(ahead) == 0 {
				continue
			}
			d, l := begin(t, ahead...)
			do(t, d, arm(1), fix(9).gives(api.ErrDead))
			steps, size := d.Steps(), d.Size()
			run(t, l, put(), put("").gives(api.ErrArg), pack("").gives(api.ErrArg), put(), last.gives(api.ErrDead))
			wantDeadLog(t, l)
			if d.Steps() != steps || d.Size() != size {
				t.Errorf("%d steps, %d bytes", d.Steps()-steps, d.Size())
			}
			d.Crash()
			wantDeadLog(t, l)
		}
	}
	// Behind a crash of which the log has not learned it goes on.
	d, l := begin(t, put("a"), firm())
	do(t, d, arm(1), fix(9).gives(api.ErrDead))
	run(t, l, put())
	do(t, d, crash())
	run(t, l, put("bc"), firm())
	wantFile(t, d, 0, states0+frameA+frameBC)
}

// P17.2, P17.4: of several errors the first one: no log, a dead one, no record, and then the disk's.
func TestSeveralErrors(t *testing.T) {
	for _, ahead := range [][]call{calls(), calls(put("a"))} {
		// The disk is full, and what is handed in is no record.
		d := newDisk(t, 21)
		l := open(t, d)
		run(t, l, ahead...)
		run(t, l, put("bc", "d", "").gives(api.ErrArg), pack("bc", "d", "").gives(api.ErrArg), put("bc", "d").gives(api.ErrFull), pack("bc", "d").gives(api.ErrFull))
		// It is full and armed: ErrFull is no step, so that it does not die.
		do(t, d, arm(1))
		run(t, l, put("bc", "d").gives(api.ErrFull), pack("bc", "d").gives(api.ErrFull), put("").gives(api.ErrArg))
		// It is full and dead.
		do(t, d, fix(9).gives(api.ErrDead))
		run(t, l, put("").gives(api.ErrArg), pack("").gives(api.ErrArg), put("bc", "d").gives(api.ErrDead))
		run(t, l, put("").gives(api.ErrDead), pack("").gives(api.ErrDead), put().gives(api.ErrDead), firm().gives(api.ErrDead))
	}
	// Behind the last file is none, and the disk is full, or dead.
	d := newDisk(t, 21, add(65535, laid(1, "a")))
	l := open(t, d, "a")
	run(t, l, pack("bc", "d").gives(api.ErrArg))
	do(t, d, arm(1))
	run(t, l, pack("bc", "d").gives(api.ErrArg))
	do(t, d, fix(9).gives(api.ErrDead))
	run(t, l, pack("bc", "").gives(api.ErrArg), pack("bc", "d").gives(api.ErrDead))
	wantDeadLog(t, l)
}
