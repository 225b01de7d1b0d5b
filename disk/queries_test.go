package disk_test

import (
	"math/rand"
	"slices"
	"testing"

	"vitrine/api"
)

// P16.3: Files is in increasing order, in whatever order files come into being and are removed.
func TestFilesInOrder(t *testing.T) {
	rnd := rand.New(rand.NewSource(163))
	numbers := []int{0, 1, 9, 10, 99, 100, 255, 256, 4096, 32768, 65534, 65535}
	for range 200 {
		d := newDisk(t, 10)
		var list []int
		for _, i := range rnd.Perm(len(numbers)) {
			run(t, d, add(numbers[i], ""))
			list = append(list, numbers[i])
			slices.Sort(list)
			if got := d.Files(); !slices.Equal(got, list) {
				t.Fatalf("files %v, not %v", got, list)
			}
		}
		for _, i := range rnd.Perm(len(numbers)) {
			run(t, d, drop(numbers[i]))
			list = slices.DeleteFunc(list, func(file int) bool { return file == numbers[i] })
			if got := d.Files(); !slices.Equal(got, list) {
				t.Fatalf("files %v, not %v", got, list)
			}
		}
	}
	d := after(t, 10, add(2, ""), add(65535, "a"), add(0, "b"), add(2, "c"), add(10, ""), fix(1), cut(3, 0), drop(4))
	wantFiles(t, d, "0=b 2=c 10= 65535=a")
}

// P16.3, R2: a list that Files returned belongs to the caller.
func TestFilesIsNew(t *testing.T) {
	d := after(t, 10, add(7, "ab"), add(3, "c"), add(5, "d"))
	first, second := d.Files(), d.Files()
	all := first[:cap(first)]
	for i := range all {
		all[i] = 65535 - i
	}
	if !slices.Equal(second, []int{3, 5, 7}) {
		t.Errorf("another list is %v", second)
	}
	wantFiles(t, d, "3=c 5=d 7=ab")
	before := d.Files()
	run(t, d, drop(3), add(0, "x"), add(9, "y"))
	if !slices.Equal(before, []int{3, 5, 7}) {
		t.Errorf("a list from before is %v", before)
	}
	wantFiles(t, d, "0=x 5=d 7=ab 9=y")
	_ = append(before[:0], 1, 2, 3, 4, 5, 6)
	wantFiles(t, d, "0=x 5=d 7=ab 9=y")
	run(t, d, crash(1, 1, 1, 1))
	wantFiles(t, d, "0=x 5=d 7=a 9=y")
}

// P16.3: Size is the bytes of all files, synced or not, on a living disk, a dead one and behind a crash.
func TestSize(t *testing.T) {
	d := newDisk(t, 20)
	for i, c := range []struct {
		call call
		size int
	}{
		{add(0, "abc"), 3},
		{add(1, "de"), 5},
		{fix(0), 5},
		{add(0, "fgh"), 8},
		{add(2, ""), 8},
		{cut(0, 7).gives(api.ErrArg), 8},
		{add(2, "0123456789012").gives(api.ErrFull), 8},
		{cut(0, 5), 7},
		{cut(0, 5), 7},
		{cut(5, 0), 7},
		{drop(5), 7},
		{drop(1), 5},
		{drop(1), 5},
		{add(1, "ijkl"), 9},
		{crash(1), 6},
		{crash(1), 6},
		{arm(1), 6},
		{add(2, "mnop").gives(api.ErrDead), 10},
		{add(2, "q").gives(api.ErrDead), 10},
		{crash(2), 8},
		{arm(1), 8},
		{drop(0).gives(api.ErrDead), 8},
		{crash(), 8},
		{drop(0), 3},
		{drop(1), 2},
		{drop(2), 0},
	} {
		run(t, d, c.call)
		if d.Size() != c.size {
			t.Errorf("call %d, %s: %d bytes, not %d", i, c.call.text, d.Size(), c.size)
		}
	}
}

// P16.3: Read returns what is not synced too; nothing for files that do not exist, and does not make them.
func TestRead(t *testing.T) {
	d := after(t, 20, add(1, "abc"), fix(1), add(1, "def"), add(3, ""))
	for file, want := range []string{"", "abcdef", "", "", ""} {
		for range 2 {
			if text, e := d.Read(file); text != want || e != api.OK {
				t.Errorf("Read(%d) is %q, %d", file, text, e)
			}
		}
	}
	wantFiles(t, d, "1=abcdef 3=")
	wantSteps(t, d, 4)
	run(t, d, drop(1))
	if text, e := d.Read(1); text != "" || e != api.OK {
		t.Errorf("Read of a file that was dropped is %q, %d", text, e)
	}
}

// P16.3: queries are no steps and change nothing, also what is synced and the step at which the disk is armed.
func TestQueriesAreNoSteps(t *testing.T) {
	ask := func(d device) {
		for range 5 {
			d.Files()
			d.Size()
			d.Dead()
			d.Steps()
			d.Read(0)
			d.Read(1)
			d.Read(-1)
		}
	}
	d := after(t, 20, add(0, "abc"), fix(0), add(0, "de"), arm(2))
	ask(d)
	wantSteps(t, d, 3)
	wantFiles(t, d, "0=abcde")
	run(t, d, add(0, "f"))
	ask(d)
	run(t, d, add(0, "g").gives(api.ErrDead))
	ask(d)
	wantDead(t, d, []int{0}, 7, 5)
	run(t, d, crash(3))
	wantFiles(t, d, "0=abcdef")
}

// P16.2, P16.3: Steps counts each call that returns OK, or at which the disk dies, and no other one.
func TestSteps(t *testing.T) {
	d := newDisk(t, 5)
	for i, c := range []struct {
		call  call
		steps int
	}{
		{read(0), 0},
		{arm(0), 0},
		{crash(1), 0},
		{add(0, "abc"), 1},
		{add(0, ""), 2},
		{add(0, "def").gives(api.ErrFull), 2},
		{add(-1, "").gives(api.ErrArg), 2},
		{fix(0), 3},
		{fix(1), 4},
		{fix(65536).gives(api.ErrArg), 4},
		{cut(0, 3), 5},
		{cut(0, 2), 6},
		{cut(0, 3).gives(api.ErrArg), 6},
		{cut(1, 0), 7},
		{cut(1, 1).gives(api.ErrArg), 7},
		{drop(1), 8},
		{drop(0), 9},
		{drop(0), 10},
		{drop(-1).gives(api.ErrArg), 10},
		{crash(), 10},
		{arm(1), 10},
		{add(0, "a").gives(api.ErrDead), 11},
		{add(0, "a").gives(api.ErrDead), 11},
		{fix(0).gives(api.ErrDead), 11},
		{cut(0, 0).gives(api.ErrDead), 11},
		{drop(0).gives(api.ErrDead), 11},
		{read(0).gives(api.ErrDead), 11},
		{crash(1), 11},
		{arm(1), 11},
		{fix(0).gives(api.ErrDead), 12},
		{crash(), 12},
		{arm(1), 12},
		{cut(0, 0).gives(api.ErrDead), 13},
		{crash(), 13},
		{arm(1), 13},
		{drop(0).gives(api.ErrDead), 14},
		{crash(), 14},
		{drop(0), 15},
	} {
		run(t, d, c.call)
		if d.Steps() != c.steps {
			t.Errorf("call %d, %s: %d steps, not %d", i, c.call.text, d.Steps(), c.steps)
		}
	}
}

// P16.3: Dead is true from the step at which the disk dies up to the next crash.
func TestDead(t *testing.T) {
	d := newDisk(t, 20)
	for i, c := range []struct {
		call call
		dead bool
	}{
		{arm(2), false},
		{add(0, "a"), false},
		{add(-1, "a").gives(api.ErrArg), false},
		{read(0), false},
		{add(0, "b").gives(api.ErrDead), true},
		{read(0).gives(api.ErrDead), true},
		{arm(0), true},
		{fix(0).gives(api.ErrDead), true},
		{crash(), false},
		{fix(0), false},
		{crash(), false},
	} {
		run(t, d, c.call)
		if d.Dead() != c.dead {
			t.Errorf("call %d, %s: dead: %t", i, c.call.text, d.Dead())
		}
	}
}
