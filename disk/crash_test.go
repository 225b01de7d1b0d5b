package disk_test

import (
	"math"
	"slices"
	"testing"

	"vitrine/api"
)

// P16.4: how many of n bytes that are not synced remain, for an element of keeps: worked out by hand.
func TestKeepOfOneFile(t *testing.T) {
	for _, c := range []struct{ n, keep, remain int }{
		{0, 0, 0}, {0, 1, 0}, {0, -1, 0}, {0, math.MaxInt, 0}, {0, math.MinInt, 0},
		{1, 0, 0}, {1, 1, 1}, {1, 2, 0}, {1, 3, 1}, {1, -1, 0}, {1, -2, 1}, {1, -3, 0}, {1, -4, 1},
		{1, math.MaxInt, 1}, {1, math.MaxInt - 1, 0}, {1, math.MinInt, 1}, {1, math.MinInt + 1, 0},
		{2, 0, 0}, {2, 1, 1}, {2, 2, 2}, {2, 3, 0}, {2, 4, 1}, {2, 5, 2}, {2, 6, 0}, {2, 100, 1}, {2, 101, 2}, {2, 102, 0},
		{2, -1, 0}, {2, -2, 1}, {2, -3, 2}, {2, -4, 0}, {2, -5, 1}, {2, -6, 2}, {2, -7, 0}, {2, -101, 1}, {2, -102, 2},
		{3, 3, 3}, {3, 4, 0}, {3, 5, 1}, {3, 7, 3}, {3, 8, 0}, {3, -1, 0}, {3, -4, 3}, {3, -5, 0}, {3, -8, 3}, {3, -9, 0},
		{3, math.MaxInt, 3}, {3, math.MaxInt - 1, 2}, {3, math.MaxInt - 2, 1}, {3, math.MaxInt - 3, 0},
		{3, math.MinInt, 3}, {3, math.MinInt + 1, 2}, {3, math.MinInt + 2, 1}, {3, math.MinInt + 3, 0},
		{4, 3, 3}, {4, 4, 4}, {4, 5, 0}, {4, 6, 1}, {4, 9, 4}, {4, 10, 0}, {4, -5, 4}, {4, -6, 0}, {4, -10, 4}, {4, -11, 0},
		{4, math.MaxInt, 2}, {4, math.MaxInt - 1, 1}, {4, math.MinInt, 2}, {4, math.MinInt + 1, 1}, {4, math.MaxInt32, 2}, {4, math.MinInt32, 2},
		{9, 10, 0}, {9, 123456789, 9}, {9, 1234567890, 0}, {9, -1, 0}, {9, -10, 9}, {9, -11, 0}, {9, -123456789, 8},
		{9, math.MaxInt, 7}, {9, math.MinInt, 7},
	} {
		loose := "123456789"[:c.n]
		for ahead, before := range map[string][]call{
			"":     calls(add(4, loose)),
			"abcd": calls(add(4, "abcd"), fix(4), add(4, loose)),
			"abc":  calls(add(4, "abcd"), cut(4, 3), add(4, loose)),
			"ab":   calls(add(4, "x"), drop(4), add(4, "ab"), fix(4), add(4, loose[:c.n/2]), add(4, loose[c.n/2:])),
		} {
			d := after(t, 20, append(before, crash(c.keep))...)
			wantFiles(t, d, "4="+ahead+loose[:c.remain])
			wantSteps(t, d, len(before))
			d.Crash()
			wantFiles(t, d, "4="+ahead+loose[:c.remain])
			likeModel(t, 20, append(before, crash(c.keep), crash(c.keep))...)
			if t.Failed() {
				t.Fatalf("%s, Crash(%d)", textOf(before), c.keep)
			}
		}
	}
}

// P16.4: each small element, with each small number of bytes.
func TestEachKeep(t *testing.T) {
	for n := range 12 {
		for k := range 40 {
			for _, keep := range []int{k, -k - 1} {
				d := after(t, 20, add(0, "ab"), fix(0), add(0, "0123456789xyz"[:n]), crash(keep))
				remain := k
				for remain > n {
					remain -= n + 1
				}
				wantFiles(t, d, "0=ab"+"0123456789xyz"[:remain])
			}
		}
	}
}

// P16.4: elements are assigned in the order of the files' numbers to those that have bytes that are not synced, and to no other ones.
func TestKeepsOfSeveralFiles(t *testing.T) {
	// 3 and 5 and 7 have bytes that are not synced; 2, 4, 6 and 8 exist and have none.
	ahead := calls(add(7, "abc"), add(4, "kl"), fix(4), add(3, "d"), fix(3), add(6, ""), add(3, "ef"), add(5, "ghij"), add(2, "m"), fix(2), add(8, "no"), cut(8, 1), add(1, "p"), drop(1))
	for _, c := range []struct {
		keeps []int
		want  string
	}{
		{nil, "2=m 3=d 4=kl 5= 6= 7= 8=n"},
		{[]int{}, "2=m 3=d 4=kl 5= 6= 7= 8=n"},
		{[]int{0}, "2=m 3=d 4=kl 5= 6= 7= 8=n"},
		{[]int{1}, "2=m 3=de 4=kl 5= 6= 7= 8=n"},
		{[]int{2}, "2=m 3=def 4=kl 5= 6= 7= 8=n"},
		{[]int{3}, "2=m 3=d 4=kl 5= 6= 7= 8=n"},
		{[]int{1, 1}, "2=m 3=de 4=kl 5=g 6= 7= 8=n"},
		{[]int{0, 4}, "2=m 3=d 4=kl 5=ghij 6= 7= 8=n"},
		{[]int{0, 0, 3}, "2=m 3=d 4=kl 5= 6= 7=abc 8=n"},
		{[]int{2, 4, 3}, "2=m 3=def 4=kl 5=ghij 6= 7=abc 8=n"},
		{[]int{3, 5, 4}, "2=m 3=d 4=kl 5= 6= 7= 8=n"},
		{[]int{1, 2, 3, 1}, "2=m 3=de 4=kl 5=gh 6= 7=abc 8=n"},
		{[]int{1, 2, 3, 1, 1, 1, 1, 1, 1}, "2=m 3=de 4=kl 5=gh 6= 7=abc 8=n"},
		{[]int{3, 2, 1}, "2=m 3=d 4=kl 5=gh 6= 7=a 8=n"},
		{[]int{-1, -2, -3}, "2=m 3=d 4=kl 5=g 6= 7=ab 8=n"},
		{[]int{-3, -5, -4}, "2=m 3=def 4=kl 5=ghij 6= 7=abc 8=n"},
		{[]int{-4, -6, -5}, "2=m 3=d 4=kl 5= 6= 7= 8=n"},
		{[]int{math.MaxInt, math.MaxInt, math.MaxInt}, "2=m 3=de 4=kl 5=gh 6= 7=abc 8=n"},
		{[]int{math.MinInt, math.MinInt, math.MinInt}, "2=m 3=de 4=kl 5=gh 6= 7=abc 8=n"},
		{[]int{7, -7, 7}, "2=m 3=de 4=kl 5=g 6= 7=abc 8=n"},
	} {
		d := after(t, 30, append(ahead, crash(c.keeps...))...)
		wantFiles(t, d, c.want)
		wantSteps(t, d, len(ahead))
		for _, again := range [][]int{nil, {1}, {1, 2, 3}, {-2}} {
			d.Crash(again...)
			wantFiles(t, d, c.want)
		}
		likeModel(t, 30, append(ahead, crash(c.keeps...))...)
		if t.Failed() {
			t.Fatalf("Crash(%v)", c.keeps)
		}
	}
}

// P16.4: files at the edges, and the order of numbers, not of their digits or of how the files came into being.
func TestKeepsByNumber(t *testing.T) {
	for _, order := range [][]int{{0, 9, 10, 256, 65535}, {65535, 256, 10, 9, 0}, {10, 65535, 0, 256, 9}} {
		var ahead []call
		for _, file := range order {
			ahead = append(ahead, add(file, "abcde"))
		}
		d := after(t, 30, append(ahead, crash(1, 2, 3, 4, 5))...)
		wantFiles(t, d, "0=a 9=ab 10=abc 256=abcd 65535=abcde")
	}
}

// P16.4: behind a crash all bytes are synced, the disk is neither dead nor armed, and there were as many steps as before.
func TestBehindCrash(t *testing.T) {
	for _, ahead := range [][]call{
		calls(),
		calls(arm(1)),
		calls(arm(2)),
		calls(arm(30)),
		calls(arm(math.MaxInt)),
		calls(arm(1), fix(5).gives(api.ErrDead)),
		calls(arm(1), cut(5, 0).gives(api.ErrDead)),
		calls(arm(1), drop(0).gives(api.ErrDead)),
		calls(arm(1), drop(0).gives(api.ErrDead), arm(1)),
		calls(arm(1), drop(0).gives(api.ErrDead), arm(5)),
		calls(arm(2), fix(9), drop(0).gives(api.ErrDead), fix(0).gives(api.ErrDead)),
	} {
		d := after(t, 20, append(calls(add(0, "abc"), fix(0), add(0, "de"), add(3, "fghi")), ahead...)...)
		steps := d.Steps()
		run(t, d, crash(1, 2))
		wantFiles(t, d, "0=abcd 3=fg")
		wantSteps(t, d, steps)
		wantNotArmed(t, d)
		wantSteps(t, d, steps+50)
		run(t, d, crash())
		wantFiles(t, d, "0=abcd 3=fg")
		run(t, d, add(0, "jk"), add(3, "l"), crash(2, 0))
		wantFiles(t, d, "0=abcdjk 3=fg")
		run(t, d, arm(2), fix(0), fix(0).gives(api.ErrDead), crash(1))
		wantFiles(t, d, "0=abcdjk 3=fg")
	}
}

// P16.4: a crash removes no file, also if all its bytes are lost, and brings none back.
func TestCrashAndFiles(t *testing.T) {
	d := after(t, 10, crash(), crash(1, 2), add(2, "abc"), add(1, ""), add(0, "d"), fix(0), drop(0), add(9, "e"), drop(9), crash())
	wantFiles(t, d, "1= 2=")
	run(t, d, add(9, "f"), crash(1))
	wantFiles(t, d, "1= 2= 9=f")
	run(t, d, drop(2), crash(1))
	wantFiles(t, d, "1= 9=f")
}

// P16.4: bytes that were lost do not come back, and those that follow stand in their place.
func TestLostBytes(t *testing.T) {
	d := after(t, 20, add(0, "abc"), fix(0), add(0, "defghi"), crash(2), add(0, "x"), fix(0), add(0, ""))
	wantFiles(t, d, "0=abcdex")
	run(t, d, add(0, "yz"), crash(1), add(0, "u"), crash(1))
	wantFiles(t, d, "0=abcdexyu")
	run(t, d, cut(0, 4), add(0, "v"), crash(1))
	wantFiles(t, d, "0=abcdv")
}

// P16.5: what was synced remains at each crash of two files, followed by each beginning of what is behind it.
func TestSyncedRemains(t *testing.T) {
	const firm, loose = "abcde", "fghijk"
	for a := range 8 {
		for b := range 8 {
			for dies := range 2 {
				d := after(t, 40, add(1, firm), add(2, firm), fix(2), fix(1), add(2, loose[:3]), add(1, loose), add(2, loose[3:]))
				if dies == 1 {
					run(t, d, arm(1), fix(1).gives(api.ErrDead))
				}
				run(t, d, crash(a, b))
				wantFiles(t, d, "1="+firm+loose[:a%7]+" 2="+firm+loose[:b%7])
			}
		}
	}
}

// R2: the list of keeps is not changed, nor is the memory behind its end; nor is it kept.
func TestKeepsAreNotChanged(t *testing.T) {
	for _, keeps := range [][]int{{1, 2, 3, 4}, {-1, -2, -3, -4}, {9, 9, 9, 9}, {math.MinInt, math.MaxInt, 0, -1}} {
		for n := range 5 {
			memory := append(slices.Clone(keeps), 77, 88)
			before := slices.Clone(memory)
			ahead := calls(add(1, "abcde"), add(0, "fgh"), add(2, "ij"))
			d, m := after(t, 20, ahead...), &model{limit: 20}
			for _, c := range ahead {
				c.do(m)
			}
			m.Crash(before[:n]...)
			d.Crash(memory[:n]...)
			if !slices.Equal(memory, before) {
				t.Errorf("the list %v is %v then", before, memory)
			}
			clear(memory)
			sameAsModel(t, d, m, crash(), nil)
		}
	}
}
