package deflate

// Symbols of the small code that repeat lengths.
const (
	againCode     = 16 // the previous length
	zerosCode     = 17
	manyZerosCode = 18
)

// How many lengths these stand for.
const (
	leastAgain     = 3
	mostAgain      = 6
	leastZeros     = 3
	leastManyZeros = 11
	mostManyZeros  = 138
)

// Run is a small code, and the number in the bits behind it.
type Run struct {
	Code, More int
}

// Runs is lengths as small codes.
func Runs(lens ...int) []Run {
	var runs []Run
	for at := 0; at < len(lens); {
		run, n := runAt(lens, at)
		runs = append(runs, run)
		at += n
	}
	return runs
}

// runAt is the run at a position, and how many lengths it stands for.
func runAt(lens []int, at int) (Run, int) {
	n := equal(lens[at:], mostManyZeros)
	zero := lens[at] == 0
	again := !zero && at > 0 && lens[at-1] == lens[at]
	switch {
	case zero && n >= leastManyZeros:
		return Run{manyZerosCode, n - leastManyZeros}, n
	case zero && n >= leastZeros:
		return Run{zerosCode, n - leastZeros}, n
	case again && n >= leastAgain:
		n = min(n, mostAgain)
		return Run{againCode, n - leastAgain}, n
	}
	return Run{lens[at], 0}, 1
}

// equal is how many lengths are equal to the first one, from there on; no more than most are counted.
func equal(lens []int, most int) int {
	n := 1
	for n < min(len(lens), most) && lens[n] == lens[0] {
		n++
	}
	return n
}

// extraOf is the number of bits behind a small code.
func extraOf(code int) int {
	switch code {
	case againCode:
		return 2
	case zerosCode:
		return 3
	case manyZerosCode:
		return 7
	}
	return 0
}
