package disk_test

import (
	"math"
	"testing"

	"vitrine/api"
)

// P16.4: a disk that is armed at a step dies at just this one, whatever calls the steps are.
func TestArm(t *testing.T) {
	for _, ahead := range [][]call{calls(), calls(add(0, "abc")), calls(add(0, "abc"), fix(0), drop(1), drop(2), drop(3))} {
		for step := 1; step <= 20; step++ {
			d := after(t, 10, append(ahead, arm(step))...)
			wantArmedAt(t, d, step)
			wantSteps(t, d, len(ahead)+step)
		}
	}
	for _, last := range changers(0) {
		for step := 1; step <= 9; step++ {
			d := after(t, 20, arm(step))
			for n := 1; n < step; n++ {
				run(t, d, changers(n % 3)[n%4])
				wantSteps(t, d, n)
			}
			run(t, d, last.gives(api.ErrDead))
			wantSteps(t, d, step)
		}
	}
}

// P16.4: Arm is itself no step, and does not kill.
func TestArmIsNoStep(t *testing.T) {
	d := after(t, 10, add(0, "a"), arm(1))
	for range 5 {
		d.Arm(1)
	}
	wantFiles(t, d, "0=a")
	wantSteps(t, d, 1)
	run(t, d, fix(0).gives(api.ErrDead))
}

// P16.4: another Arm stands in place of the one before, be it earlier or later, and counts from now on.
func TestArmAgain(t *testing.T) {
	for first := -1; first <= 6; first++ {
		for between := range 6 {
			if first >= 1 && between >= first {
				continue
			}
			for second := 1; second <= 6; second++ {
				d := after(t, 10, arm(first))
				for range between {
					run(t, d, fix(0))
				}
				run(t, d, arm(second))
				wantArmedAt(t, d, second)
				wantSteps(t, d, between+second)
			}
		}
	}
}

// P16.4: with a step below 1 the disk is not armed any more.
func TestArmBelowOne(t *testing.T) {
	for _, step := range []int{0, -1, -2, -100, math.MinInt32, math.MinInt + 1, math.MinInt} {
		for first := range 4 {
			d := after(t, 10, arm(first), add(0, "a").gives(deadIf(first == 1)))
			if first == 1 {
				continue
			}
			run(t, d, arm(step))
			wantNotArmed(t, d)
			run(t, d, arm(2))
			wantArmedAt(t, d, 2)
		}
	}
}

// deadIf is what a step returns at which the disk dies, or does not.
func deadIf(dies bool) api.Errno {
	if dies {
		return api.ErrDead
	}
	return api.OK
}

// P16.4: steps that are far away do not come, however many there were.
func TestArmFarAway(t *testing.T) {
	for _, step := range []int{51, 1000, math.MaxInt32, math.MaxInt32 + 1, math.MaxUint32, math.MaxUint32 + 2, math.MaxInt - 1, math.MaxInt} {
		d := after(t, 10, arm(step))
		wantNotArmed(t, d)
		run(t, d, arm(math.MaxInt))
		wantNotArmed(t, d)
		run(t, d, arm(1), fix(0).gives(api.ErrDead))
	}
	d := after(t, 10, arm(1000))
	wantArmedAt(t, d, 1000)
}

// P16.2: what each call does at which the disk dies. Behind it come a crash that keeps nothing, and one that keeps all that it can.
func TestDying(t *testing.T) {
	for _, c := range []struct {
		ahead     []call
		last      call
		files     []int
		size      int
		keeps     []int
		none, all string
	}{
		{calls(), add(0, "abc"), []int{0}, 3, []int{3}, "0=", "0=abc"},
		{calls(), add(0, ""), []int{0}, 0, []int{3}, "0=", "0="},
		{calls(), fix(0), nil, 0, []int{3}, "", ""},
		{calls(), cut(0, 0), nil, 0, []int{3}, "", ""},
		{calls(), drop(0), nil, 0, []int{3}, "", ""},

		{calls(add(0, "ab")), add(0, "cd"), []int{0}, 4, []int{4}, "0=", "0=abcd"},
		{calls(add(0, "ab"), fix(0)), add(0, "cd"), []int{0}, 4, []int{2}, "0=ab", "0=abcd"},
		{calls(add(0, "ab"), fix(0), add(0, "cd")), add(0, "ef"), []int{0}, 6, []int{4}, "0=ab", "0=abcdef"},
		{calls(add(0, "ab"), fix(0)), add(0, ""), []int{0}, 2, []int{2}, "0=ab", "0=ab"},
		{calls(add(0, "ab"), fix(0)), add(1, "cd"), []int{0, 1}, 4, []int{2}, "0=ab 1=", "0=ab 1=cd"},
		{calls(add(2, "ab")), add(1, "cdefghij"), []int{1, 2}, 10, []int{8, 2}, "1= 2=", "1=cdefghij 2=ab"},
		{calls(add(0, "ab"), fix(0), drop(0)), add(0, "cd"), []int{0}, 2, []int{2}, "0=", "0=cd"},
		{calls(add(0, "abcd"), cut(0, 1)), add(0, "xy"), []int{0}, 3, []int{2}, "0=a", "0=axy"},

		{calls(add(0, "ab")), fix(0), []int{0}, 2, []int{2}, "0=", "0=ab"},
		{calls(add(0, "ab"), fix(0), add(0, "cd")), fix(0), []int{0}, 4, []int{2}, "0=ab", "0=abcd"},
		{calls(add(0, "ab"), add(1, "cd"), fix(1)), fix(0), []int{0, 1}, 4, []int{2}, "0= 1=cd", "0=ab 1=cd"},
		{calls(add(0, "ab")), fix(1), []int{0}, 2, []int{2}, "0=", "0=ab"},
		{calls(add(0, "")), fix(0), []int{0}, 0, []int{2}, "0=", "0="},

		{calls(add(0, "ab")), cut(0, 1), []int{0}, 2, []int{2}, "0=", "0=ab"},
		{calls(add(0, "ab")), cut(0, 0), []int{0}, 2, []int{2}, "0=", "0=ab"},
		{calls(add(0, "ab")), cut(0, 2), []int{0}, 2, []int{2}, "0=", "0=ab"},
		{calls(add(0, "ab"), fix(0), add(0, "cd")), cut(0, 1), []int{0}, 4, []int{2}, "0=ab", "0=abcd"},
		{calls(add(0, "ab"), fix(0), add(0, "cd")), cut(0, 3), []int{0}, 4, []int{2}, "0=ab", "0=abcd"},
		{calls(add(0, "ab")), cut(1, 0), []int{0}, 2, []int{2}, "0=", "0=ab"},

		{calls(add(0, "ab")), drop(0), []int{0}, 2, []int{2}, "0=", "0=ab"},
		{calls(add(0, "ab"), fix(0), add(0, "cd")), drop(0), []int{0}, 4, []int{2}, "0=ab", "0=abcd"},
		{calls(add(0, "")), drop(0), []int{0}, 0, []int{2}, "0=", "0="},
		{calls(add(0, "ab")), drop(1), []int{0}, 2, []int{2}, "0=", "0=ab"},
	} {
		list := append(c.ahead, arm(1), c.last.gives(api.ErrDead))
		d := after(t, 10, list...)
		wantDead(t, d, c.files, c.size, len(c.ahead)+1)
		d.Crash()
		wantFiles(t, d, c.none)
		wantSteps(t, d, len(c.ahead)+1)
		d = after(t, 10, list...)
		d.Crash(c.keeps...)
		wantFiles(t, d, c.all)
		likeModel(t, 10, append(list, crash(c.keeps...), add(0, "z"), crash())...)
		if t.Failed() {
			t.Fatalf("behind %s", textOf(list))
		}
	}
}

// P16.2: a disk that would be full does not die, though it is armed; an Append that just fits does.
func TestArmedAndFull(t *testing.T) {
	d := after(t, 4, add(0, "ab"), arm(1), add(0, "cde").gives(api.ErrFull), add(1, "cde").gives(api.ErrFull))
	wantFiles(t, d, "0=ab")
	wantSteps(t, d, 1)
	run(t, d, add(1, "cd").gives(api.ErrDead))
	wantDead(t, d, []int{0, 1}, 4, 2)
	run(t, d, crash(1, 1))
	wantFiles(t, d, "0=a 1=c")
}

// P16.2: a disk dies again and again, once for each Arm.
func TestDyingAgain(t *testing.T) {
	d := newDisk(t, 1000)
	for n := range 100 {
		run(t, d, arm(2), add(0, "x"), add(0, "y").gives(api.ErrDead), fix(0).gives(api.ErrDead), crash(2))
		wantSteps(t, d, 2*(n+1))
		if d.Size() != 2*(n+1) {
			t.Fatalf("%d bytes behind %d crashes", d.Size(), n+1)
		}
	}
	wantNotArmed(t, d)
}
