package deflate_test

import (
	"math"
	"math/rand"
	"slices"
	"testing"

	"vitrine/deflate"
)

// some is a list of n times the same length.
func some(n, length int) []int { return slices.Repeat([]int{length}, n) }

// plain is runs that each tell one length.
func plain(lens ...int) []deflate.Run {
	var runs []deflate.Run
	for _, n := range lens {
		runs = append(runs, deflate.Run{Code: n})
	}
	return runs
}

// again, zeros and manyZeros are the runs that stand for so many lengths.
func again(n int) []deflate.Run     { return []deflate.Run{{Code: 16, More: n - 3}} }
func zeros(n int) []deflate.Run     { return []deflate.Run{{Code: 17, More: n - 3}} }
func manyZeros(n int) []deflate.Run { return []deflate.Run{{Code: 18, More: n - 11}} }

// wantRuns asks for the runs of lengths, and that they stand for the lengths.
func wantRuns(t *testing.T, lens []int, want ...[]deflate.Run) {
	t.Helper()
	got := deflate.Runs(lens...)
	if all := slices.Concat(want...); !slices.Equal(got, all) {
		t.Errorf("%v: %v, not %v", lens, got, all)
	}
	var said []int
	for _, run := range got {
		switch {
		case run.Code == 16 && run.More >= 0 && run.More < 4 && len(said) > 0:
			said = append(said, some(3+run.More, said[len(said)-1])...)
		case run.Code == 17 && run.More >= 0 && run.More < 8:
			said = append(said, some(3+run.More, 0)...)
		case run.Code == 18 && run.More >= 0 && run.More < 128:
			said = append(said, some(11+run.More, 0)...)
		case run.Code >= 0 && run.Code < 16 && run.More == 0:
			said = append(said, run.Code)
		default:
			t.Errorf("%v: run %v", lens, run)
		}
	}
	if !slices.Equal(said, lens) {
		t.Errorf("%v: the runs stand for %v", lens, said)
	}
}

// P5.1: the example of the document.
func TestRunsExample(t *testing.T) {
	want := []deflate.Run{{Code: 18, More: 1}, {Code: 8, More: 0}, {Code: 16, More: 0}, {Code: 5, More: 0}}
	wantRuns(t, append(some(12, 0), 8, 8, 8, 8, 5), want)
}

// P5.1: no lengths, and one.
func TestRunsOfFew(t *testing.T) {
	wantRuns(t, nil)
	wantRuns(t, []int{})
	for length := range 16 {
		wantRuns(t, []int{length}, plain(length))
	}
}

type runCase struct {
	n    int
	want [][]deflate.Run
}

func zeroCases() []runCase {
	all := manyZeros(138)
	return []runCase{
		{1, [][]deflate.Run{plain(0)}},
		{2, [][]deflate.Run{plain(0, 0)}},
		{3, [][]deflate.Run{zeros(3)}},
		{4, [][]deflate.Run{zeros(4)}},
		{6, [][]deflate.Run{zeros(6)}},
		{7, [][]deflate.Run{zeros(7)}},
		{9, [][]deflate.Run{zeros(9)}},
		{10, [][]deflate.Run{zeros(10)}},
		{11, [][]deflate.Run{manyZeros(11)}},
		{12, [][]deflate.Run{manyZeros(12)}},
		{137, [][]deflate.Run{manyZeros(137)}},
		{138, [][]deflate.Run{all}},
		{139, [][]deflate.Run{all, plain(0)}},
		{140, [][]deflate.Run{all, plain(0, 0)}},
		{141, [][]deflate.Run{all, zeros(3)}},
		{148, [][]deflate.Run{all, zeros(10)}},
		{149, [][]deflate.Run{all, manyZeros(11)}},
		{276, [][]deflate.Run{all, all}},
		{277, [][]deflate.Run{all, all, plain(0)}},
		{279, [][]deflate.Run{all, all, zeros(3)}},
		{400, [][]deflate.Run{all, all, manyZeros(124)}},
	}
}

// P5.1: zeros at the very beginning, behind other lengths, and ahead of them.
func TestRunsOfZeros(t *testing.T) {
	for _, c := range zeroCases() {
		lens := some(c.n, 0)
		want := slices.Concat(c.want...)
		wantRuns(t, lens, want)
		for _, length := range []int{1, 8, 15} {
			wantRuns(t, append([]int{length}, lens...), plain(length), want)
			wantRuns(t, append(slices.Clone(lens), length), want, plain(length))
			wantRuns(t, append(slices.Clone(lens), some(4, length)...), want, plain(length), again(3))
			wantRuns(t, slices.Concat(some(4, length), lens, []int{length}), plain(length), again(3), want, plain(length))
		}
	}
}

// againCases is what follows a length that stands n times more.
func againCases(length int) []runCase {
	return []runCase{
		{0, nil},
		{1, [][]deflate.Run{plain(length)}},
		{2, [][]deflate.Run{plain(length, length)}},
		{3, [][]deflate.Run{again(3)}},
		{4, [][]deflate.Run{again(4)}},
		{5, [][]deflate.Run{again(5)}},
		{6, [][]deflate.Run{again(6)}},
		{7, [][]deflate.Run{again(6), plain(length)}},
		{8, [][]deflate.Run{again(6), plain(length, length)}},
		{9, [][]deflate.Run{again(6), again(3)}},
		{10, [][]deflate.Run{again(6), again(4)}},
		{11, [][]deflate.Run{again(6), again(5)}},
		{12, [][]deflate.Run{again(6), again(6)}},
		{13, [][]deflate.Run{again(6), again(6), plain(length)}},
		{137, append(slices.Repeat([][]deflate.Run{again(6)}, 22), again(5))},
		{138, slices.Repeat([][]deflate.Run{again(6)}, 23)},
		{139, append(slices.Repeat([][]deflate.Run{again(6)}, 23), plain(length))},
	}
}

// P5.1: equal lengths that are not 0, at the very beginning, behind other lengths, and ahead of them.
// The first one is told by itself: 16 has nothing to repeat ahead of it.
func TestRunsOfOthers(t *testing.T) {
	for length := 1; length < 16; length++ {
		other := 1 + length%15
		for _, c := range againCases(length) {
			lens := some(1+c.n, length)
			want := append(plain(length), slices.Concat(c.want...)...)
			wantRuns(t, lens, want)
			wantRuns(t, append([]int{0}, lens...), plain(0), want)
			wantRuns(t, append(some(3, 0), lens...), zeros(3), want)
			wantRuns(t, append(some(11, 0), lens...), manyZeros(11), want)
			wantRuns(t, append(some(4, other), lens...), plain(other), again(3), want)
			wantRuns(t, append(slices.Clone(lens), some(4, other)...), want, plain(other), again(3))
			wantRuns(t, append(slices.Clone(lens), some(3, 0)...), want, zeros(3))
		}
	}
}

// P5.1: the previous length is the one right ahead of a position, and no earlier one.
func TestRunsPrevious(t *testing.T) {
	wantRuns(t, []int{7, 7, 7}, plain(7, 7, 7))
	wantRuns(t, []int{4, 5, 4, 4, 4}, plain(4, 5, 4, 4, 4))
	wantRuns(t, []int{4, 0, 4, 4, 4}, plain(4, 0, 4, 4, 4))
	wantRuns(t, []int{4, 0, 0, 0, 4, 4, 4}, plain(4), zeros(3), plain(4, 4, 4))
	wantRuns(t, []int{4, 4, 4, 4, 5, 5, 5, 4, 4, 4}, plain(4), again(3), plain(5, 5, 5, 4, 4, 4))
	wantRuns(t, []int{1, 2, 3, 4, 5, 6, 7, 8, 9, 10, 11, 12, 13, 14, 15, 0}, plain(1, 2, 3, 4, 5, 6, 7, 8, 9, 10, 11, 12, 13, 14, 15, 0))
}

// runsModel is P5.1 in its own words.
func runsModel(lens []int) []deflate.Run {
	var runs []deflate.Run
	for at := 0; at < len(lens); {
		length := lens[at]
		n := 0
		for at+n < len(lens) && lens[at+n] == length {
			n++
		}
		if length == 0 && n >= 11 {
			n = min(n, 138)
			runs = append(runs, deflate.Run{Code: 18, More: n - 11})
		} else if length == 0 && n >= 3 && n <= 10 {
			runs = append(runs, deflate.Run{Code: 17, More: n - 3})
		} else if length != 0 && at > 0 && lens[at-1] == length && n >= 3 {
			n = min(n, 6)
			runs = append(runs, deflate.Run{Code: 16, More: n - 3})
		} else {
			n = 1
			runs = append(runs, deflate.Run{Code: length, More: 0})
		}
		at += n
	}
	return runs
}

// P5.1: all short lists of three lengths, and random long ones with many equal lengths.
func TestRunsModel(t *testing.T) {
	lists := [][]int{nil}
	for range 8 {
		var longer [][]int
		for _, lens := range lists {
			for _, length := range []int{0, 1, 9} {
				longer = append(longer, append(slices.Clone(lens), length))
			}
		}
		for _, lens := range longer {
			wantRuns(t, lens, runsModel(lens))
		}
		lists = longer
	}
	rnd := rand.New(rand.NewSource(5))
	for range 3000 {
		var lens []int
		for range rnd.Intn(12) {
			length := rnd.Intn(16) * rnd.Intn(2)
			lens = append(lens, some(1+rnd.Intn(1+rnd.Intn(160)), length)...)
		}
		wantRuns(t, lens, runsModel(lens))
	}
}

// P5.1, R1: numbers that are no lengths are told like lengths.
func TestRunsOfWrong(t *testing.T) {
	for _, v := range []int{-1, 16, 17, 18, 19, 286, math.MaxInt, math.MinInt} {
		for n := range 20 {
			for _, lens := range [][]int{some(n, v), append([]int{v, 0}, some(n, v)...), append(some(n, 0), v, v, v, v)} {
				if got, want := deflate.Runs(lens...), runsModel(lens); !slices.Equal(got, want) {
					t.Errorf("%v: %v, not %v", lens, got, want)
				}
			}
		}
	}
	many := append(some(100000, 3), some(100000, 0)...)
	if got, want := len(deflate.Runs(many...)), 1+16666+1+725; got != want {
		t.Errorf("%d runs, not %d", got, want)
	}
}

// R2, R3: lengths stay what they are, behind their end as well, and each result is memory of its own.
func TestRunsApart(t *testing.T) {
	back := []int{5, 5, 5, 5, 0, 0, 0, 9, 9}
	for n := range back {
		first := deflate.Runs(back[:n]...)
		clear(first[:cap(first)])
		wantRuns(t, back[:n], runsModel(back[:n]))
	}
	if want := []int{5, 5, 5, 5, 0, 0, 0, 9, 9}; !slices.Equal(back, want) {
		t.Errorf("lengths became %v", back)
	}
}
