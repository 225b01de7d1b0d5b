package disk_test

import (
	"math"
	"slices"
	"strings"
	"testing"

	"vitrine/api"
	"vitrine/disk"
)

// goodFiles are numbers that files may have.
func goodFiles() []int { return []int{0, 1, 255, 256, 32767, 32768, 65534, 65535} }

// wrongFiles are numbers that no file has.
func wrongFiles() []int {
	return []int{-1, -2, -65535, -65536, 65536, 65537, 131071, 131072, math.MinInt32, math.MaxInt32, math.MaxUint32, math.MaxUint32 + 1, math.MinInt, math.MinInt + 1, math.MaxInt}
}

// wrongSizes are sizes to which no file of a few bytes can be cut.
func wrongSizes() []int {
	return []int{-1, -2, -4, -256, math.MinInt32, math.MaxInt32, math.MaxUint32 + 1, math.MaxUint32 + 2, math.MinInt, math.MinInt + 2, math.MaxInt}
}

// everything is calls with all kinds of right and wrong arguments, of each kind of call that returns an error.
func everything() []call {
	var list []call
	for _, file := range append(goodFiles(), wrongFiles()...) {
		for _, data := range []string{"", "a", "abcdefghij", strings.Repeat("abc", 20)} {
			list = append(list, add(file, data))
		}
		for _, size := range append(wrongSizes(), 0, 1, 10, 11) {
			list = append(list, cut(file, size))
		}
		list = append(list, fix(file), drop(file), read(file))
	}
	return list
}

// P16.2, P16.3, P16.4: a nil disk.
func TestNilDisk(t *testing.T) {
	var d *disk.Disk
	for _, c := range everything() {
		run(t, d, c.gives(api.ErrNil))
	}
	for _, n := range []int{math.MinInt, -1, 0, 1, 2, math.MaxInt} {
		d.Arm(n)
		d.Crash()
		d.Crash(n)
		d.Crash(n, n)
	}
	if len(d.Files()) != 0 || d.Size() != 0 || d.Dead() || d.Steps() != 0 {
		t.Errorf("files %v, %d bytes, dead: %t, %d steps", d.Files(), d.Size(), d.Dead(), d.Steps())
	}
	if text, e := d.Read(0); text != "" || e != api.ErrNil {
		t.Errorf("Read is %q, %d", text, e)
	}
}

// P16.2, P16.3: all calls on a dead disk return ErrDead and are no steps, whatever their arguments; queries still tell what there is.
func TestDeadDisk(t *testing.T) {
	for _, last := range []struct {
		call call
		size int
	}{{add(3, "ef"), 6}, {add(3, ""), 4}, {fix(3), 4}, {cut(3, 1), 4}, {cut(2, 0), 4}, {drop(3), 4}, {drop(9), 4}} {
		d := after(t, 10, add(3, "abc"), fix(3), add(5, "d"), arm(1), last.call.gives(api.ErrDead))
		for _, c := range everything() {
			run(t, d, c.gives(api.ErrDead))
		}
		for _, step := range []int{0, 1, 2, -1} {
			run(t, d, arm(step), fix(3).gives(api.ErrDead))
		}
		if text, e := d.Read(3); text != "" || e != api.ErrDead {
			t.Errorf("Read is %q, %d", text, e)
		}
		wantDead(t, d, []int{3, 5}, last.size, 4)
		run(t, d, crash())
		wantFiles(t, d, "3=abc 5=")
		wantSteps(t, d, 4)
	}
}

// P16.2: of several errors the first one is returned, and with any of them nothing is changed.
func TestSeveralErrors(t *testing.T) {
	for _, c := range everything() {
		d := after(t, 10, add(0, "abcdef"), fix(0), add(255, "ghij"))
		m := &model{limit: 10}
		for _, ahead := range calls(add(0, "abcdef"), fix(0), add(255, "ghij")) {
			ahead.do(m)
		}
		sameAsModel(t, d, m, c, nil)
		sameAsModel(t, d, m, crash(2), calls(c))
	}
	d := after(t, 4, add(0, "abcd"))
	run(t, d, add(-1, "e").gives(api.ErrArg), add(65536, "e").gives(api.ErrArg), add(65535, "e").gives(api.ErrFull), cut(-1, 5).gives(api.ErrArg), cut(65536, 0).gives(api.ErrArg), cut(1, 1).gives(api.ErrArg))
	run(t, d, arm(1), add(-1, "e").gives(api.ErrArg), add(1, "e").gives(api.ErrFull), cut(0, 5).gives(api.ErrArg), cut(0, -1).gives(api.ErrArg), cut(1, 1).gives(api.ErrArg), fix(-1).gives(api.ErrArg), drop(65536).gives(api.ErrArg), read(-1).gives(api.ErrArg))
	wantFiles(t, d, "0=abcd")
	wantSteps(t, d, 1)
	run(t, d, drop(0).gives(api.ErrDead), add(-1, "e").gives(api.ErrDead), add(1, "e").gives(api.ErrDead), cut(0, 5).gives(api.ErrDead), cut(-1, -1).gives(api.ErrDead), read(65536).gives(api.ErrDead))
	wantDead(t, d, []int{0}, 4, 2)
}

// P16.2: a call that returns ErrArg or ErrFull is no step: neither Steps nor the step at which a disk is armed take notice.
func TestErrorsAreNoSteps(t *testing.T) {
	wrong := calls(add(-1, ""), add(65536, "a"), fix(-1), fix(65536), cut(-1, 0), cut(65536, 0), cut(0, -1), cut(0, 5), cut(1, 1), drop(-1), drop(65536), read(-1), read(65536))
	for i := range wrong {
		wrong[i].want = api.ErrArg
	}
	wrong = append(wrong, add(0, "1234567").gives(api.ErrFull), add(1, "1234567").gives(api.ErrFull), read(0), read(1))
	for step := 1; step < 5; step++ {
		d := after(t, 10, add(0, "abcd"), arm(step))
		for n := 1; n < step; n++ {
			run(t, d, wrong...)
			run(t, d, fix(40000))
			wantSteps(t, d, 1+n)
		}
		run(t, d, wrong...)
		wantFiles(t, d, "0=abcd")
		wantSteps(t, d, step)
		run(t, d, fix(40000).gives(api.ErrDead))
		wantDead(t, d, []int{0}, 4, step+1)
	}
}

// R1: together with an error Read returns nothing.
func TestNothingBesideAnError(t *testing.T) {
	d := after(t, 10, add(0, "abc"), add(65535, "d"))
	for _, file := range wrongFiles() {
		if text, e := d.Read(file); text != "" || e != api.ErrArg {
			t.Errorf("Read(%d) is %q, %d", file, text, e)
		}
	}
	run(t, d, arm(1), fix(0).gives(api.ErrDead))
	for _, file := range slices.Concat(goodFiles(), wrongFiles()) {
		if text, e := d.Read(file); text != "" || e != api.ErrDead {
			t.Errorf("Read(%d) is %q, %d", file, text, e)
		}
	}
}
