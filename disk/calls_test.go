package disk_test

import (
	"math/rand"
	"slices"
	"strings"
	"testing"

	"vitrine/api"
)

// P16.2: what the calls do with files, seen ahead of a crash and behind one at which nothing that was not synced remains.
func TestCallsByHand(t *testing.T) {
	for _, c := range []struct {
		calls         []call
		files, synced string
		steps         int
	}{
		{calls(), "", "", 0},
		{calls(add(0, "a")), "0=a", "0=", 1},
		{calls(add(0, "")), "0=", "0=", 1},
		{calls(add(0, "abc"), add(0, "de"), add(0, ""), add(0, "f")), "0=abcdef", "0=", 4},
		{calls(add(1, "a"), add(0, "b"), add(1, "c"), add(0, "d")), "0=bd 1=ac", "0= 1=", 4},

		{calls(fix(0)), "", "", 1},
		{calls(add(0, "abc"), fix(0)), "0=abc", "0=abc", 2},
		{calls(add(0, ""), fix(0)), "0=", "0=", 2},
		{calls(add(0, "abc"), fix(0), fix(0)), "0=abc", "0=abc", 3},
		{calls(add(0, "abc"), fix(0), add(0, "d")), "0=abcd", "0=abc", 3},
		{calls(add(0, "abc"), fix(0), add(0, "d"), fix(0)), "0=abcd", "0=abcd", 4},
		{calls(add(0, "abc"), fix(0), add(0, "")), "0=abc", "0=abc", 3},
		{calls(add(0, "abc"), add(1, "d"), fix(1)), "0=abc 1=d", "0= 1=d", 3},
		{calls(add(0, "abc"), add(1, "d"), fix(0)), "0=abc 1=d", "0=abc 1=", 3},
		{calls(add(0, "abc"), add(1, "d"), fix(2)), "0=abc 1=d", "0= 1=", 3},
		{calls(fix(0), add(0, "abc")), "0=abc", "0=", 2},

		{calls(cut(0, 0)), "", "", 1},
		{calls(add(0, "abc"), cut(0, 3)), "0=abc", "0=abc", 2},
		{calls(add(0, "abc"), cut(0, 2)), "0=ab", "0=ab", 2},
		{calls(add(0, "abc"), cut(0, 1)), "0=a", "0=a", 2},
		{calls(add(0, "abc"), cut(0, 0)), "0=", "0=", 2},
		{calls(add(0, ""), cut(0, 0)), "0=", "0=", 2},
		{calls(add(0, "abc"), fix(0), add(0, "def"), cut(0, 6)), "0=abcdef", "0=abcdef", 4},
		{calls(add(0, "abc"), fix(0), add(0, "def"), cut(0, 5)), "0=abcde", "0=abcde", 4},
		{calls(add(0, "abc"), fix(0), add(0, "def"), cut(0, 4)), "0=abcd", "0=abcd", 4},
		{calls(add(0, "abc"), fix(0), add(0, "def"), cut(0, 3)), "0=abc", "0=abc", 4},
		{calls(add(0, "abc"), fix(0), add(0, "def"), cut(0, 2)), "0=ab", "0=ab", 4},
		{calls(add(0, "abc"), fix(0), add(0, "def"), cut(0, 0)), "0=", "0=", 4},
		{calls(add(0, "abc"), cut(0, 1), add(0, "xyz")), "0=axyz", "0=a", 3},
		{calls(add(0, "abc"), fix(0), cut(0, 1), add(0, "xyz")), "0=axyz", "0=a", 4},
		{calls(add(0, "abc"), cut(0, 1), add(0, "xyz"), fix(0)), "0=axyz", "0=axyz", 4},
		{calls(add(0, "abc"), cut(0, 0), add(0, "x")), "0=x", "0=", 3},
		{calls(add(0, "abc"), cut(0, 2), cut(0, 1)), "0=a", "0=a", 3},
		{calls(add(0, "abc"), add(1, "def"), cut(1, 2)), "0=abc 1=de", "0= 1=de", 3},
		{calls(add(0, "abc"), add(1, "def"), cut(2, 0)), "0=abc 1=def", "0= 1=", 3},

		{calls(drop(0)), "", "", 1},
		{calls(add(0, "abc"), drop(0)), "", "", 2},
		{calls(add(0, ""), drop(0)), "", "", 2},
		{calls(add(0, "abc"), fix(0), drop(0)), "", "", 3},
		{calls(add(0, "abc"), drop(0), drop(0)), "", "", 3},
		{calls(add(0, "abc"), drop(0), fix(0)), "", "", 3},
		{calls(add(0, "abc"), drop(0), cut(0, 0)), "", "", 3},
		{calls(add(0, "abc"), fix(0), drop(0), add(0, "de")), "0=de", "0=", 4},
		{calls(add(0, "abc"), fix(0), drop(0), add(0, "")), "0=", "0=", 4},
		{calls(add(0, "abc"), fix(0), drop(0), add(0, "de"), fix(0)), "0=de", "0=de", 5},
		{calls(add(0, "abc"), add(1, "d"), drop(0)), "1=d", "1=", 3},
		{calls(add(0, "abc"), add(1, "d"), fix(1), drop(0)), "1=d", "1=d", 4},
		{calls(add(0, "abc"), add(1, "d"), drop(1)), "0=abc", "0=", 3},
		{calls(add(0, "abc"), add(1, "d"), drop(2)), "0=abc 1=d", "0= 1=", 3},
	} {
		d := after(t, 10, c.calls...)
		wantFiles(t, d, c.files)
		wantSteps(t, d, c.steps)
		d.Crash()
		wantFiles(t, d, c.synced)
		wantSteps(t, d, c.steps)
		likeModel(t, 10, append(c.calls, crash())...)
		if t.Failed() {
			t.Fatalf("behind %s", textOf(c.calls))
		}
	}
}

// P16.2: numbers of files at the edges.
func TestNumbersOfFiles(t *testing.T) {
	for _, file := range goodFiles() {
		d := newDisk(t, 10)
		run(t, d, add(file, "abc"), fix(file), add(file, "def"), cut(file, 4))
		if text, e := d.Read(file); text != "abcd" || e != api.OK || !slices.Equal(d.Files(), []int{file}) {
			t.Errorf("Read(%d) is %q, %d; files %v", file, text, e, d.Files())
		}
		run(t, d, drop(file))
		wantFiles(t, d, "")
		wantSteps(t, d, 5)
		run(t, d, fix(file), cut(file, 0), drop(file), read(file))
		wantFiles(t, d, "")
		wantSteps(t, d, 8)
	}
	for _, file := range wrongFiles() {
		d := after(t, 10, add(0, "abc"), add(65535, "d"))
		for _, c := range append(changers(file), add(file, ""), read(file)) {
			run(t, d, c.gives(api.ErrArg))
		}
		wantFiles(t, d, "0=abc 65535=d")
		wantSteps(t, d, 2)
		run(t, d, crash())
		wantFiles(t, d, "0= 65535=")
	}
}

// P16.2: all files that there can be are apart, whatever the order in which they come into being.
func TestAllFiles(t *testing.T) {
	d := newDisk(t, 2*65536)
	rnd := rand.New(rand.NewSource(16))
	text := func(file int) string { return string([]byte{byte(file >> 8), byte(file)}) }
	for _, file := range rnd.Perm(65536) {
		run(t, d, add(file, text(file)))
	}
	list := d.Files()
	if len(list) != 65536 || d.Size() != 2*65536 || d.Steps() != 65536 {
		t.Fatalf("%d files, %d bytes, %d steps", len(list), d.Size(), d.Steps())
	}
	run(t, d, add(0, "x").gives(api.ErrFull))
	for i, file := range list {
		if got, e := d.Read(file); file != i || got != text(i) || e != api.OK {
			t.Fatalf("file %d at %d: %x, %d", file, i, got, e)
		}
	}
	for file := range 65536 {
		if file%3 == 0 {
			run(t, d, drop(file))
		} else if file%3 == 1 {
			run(t, d, fix(file))
		}
	}
	keeps := make([]int, 65536)
	for i := range keeps {
		keeps[i] = i
	}
	d.Crash(keeps...)
	for file := range 65536 {
		want := text(file)
		if file%3 == 0 {
			want = ""
		} else if file%3 == 2 {
			want = want[:(file/3)%3]
		}
		if got, e := d.Read(file); got != want || e != api.OK {
			t.Fatalf("file %d: %x, %d, not %x", file, got, e, want)
		}
	}
}

// P16.2: Cut takes each size from 0 to the file's length, and no other one.
func TestSizesOfCut(t *testing.T) {
	for _, ahead := range [][]call{
		calls(add(3, "abcd")),
		calls(add(3, "abcd"), fix(3)),
		calls(add(3, "ab"), fix(3), add(3, "cd")),
		calls(add(3, "abcd"), add(2, "efgh"), add(4, "ijklm")),
	} {
		for size := range 5 {
			d := after(t, 20, append(ahead, cut(3, size))...)
			if text, _ := d.Read(3); text != "abcd"[:size] {
				t.Errorf("%s, Cut(3, %d): %q", textOf(ahead), size, text)
			}
			wantSteps(t, d, len(ahead)+1)
			d.Crash()
			if text, _ := d.Read(3); text != "abcd"[:size] {
				t.Errorf("%s, Cut(3, %d), Crash: %q", textOf(ahead), size, text)
			}
		}
		for _, size := range append(wrongSizes(), 5, 6, 9, 13) {
			d := after(t, 20, append(ahead, cut(3, size).gives(api.ErrArg))...)
			if text, _ := d.Read(3); text != "abcd" {
				t.Errorf("%s, Cut(3, %d): %q", textOf(ahead), size, text)
			}
			wantSteps(t, d, len(ahead))
		}
	}
	for _, ahead := range [][]call{calls(), calls(add(3, "abcd"), drop(3)), calls(add(2, "ab"), fix(2)), calls(add(3, ""))} {
		for _, size := range append(wrongSizes(), 1, 2, 4) {
			d := after(t, 20, append(ahead, cut(3, size).gives(api.ErrArg))...)
			wantSteps(t, d, len(ahead))
		}
		d := after(t, 20, ahead...)
		files := d.Files()
		run(t, d, cut(3, 0))
		if !slices.Equal(d.Files(), files) {
			t.Errorf("%s, Cut(3, 0): files %v", textOf(ahead), d.Files())
		}
		wantSteps(t, d, len(ahead)+1)
	}
}

// P16.2: a refused Cut does not make bytes synced.
func TestRefusedCutSyncsNothing(t *testing.T) {
	d := after(t, 10, add(0, "ab"), fix(0), add(0, "cd"), cut(0, 5).gives(api.ErrArg), cut(0, -1).gives(api.ErrArg), crash())
	wantFiles(t, d, "0=ab")
}

// P16.2: all files together have at most limit bytes, whatever calls made room.
func TestFull(t *testing.T) {
	for _, c := range []struct {
		ahead []call
		room  int
	}{
		{calls(), 10},
		{calls(add(0, "")), 10},
		{calls(add(0, "abcd")), 6},
		{calls(add(0, "abcd"), fix(0)), 6},
		{calls(add(0, "abcd"), add(0, "ef")), 4},
		{calls(add(0, "abcd"), add(1, "ef")), 4},
		{calls(add(0, "abc"), add(1, "def"), add(65535, "ghi")), 1},
		{calls(add(0, "abc"), fix(0), add(1, "def"), add(65535, "ghi"), add(2, "j")), 0},
		{calls(add(0, "abcdefghij")), 0},
		{calls(add(0, "abcdefghij"), cut(0, 7)), 3},
		{calls(add(0, "abcdefghij"), cut(0, 10)), 0},
		{calls(add(0, "abcdefghij"), cut(0, 0)), 10},
		{calls(add(0, "abcdefghij"), fix(0), cut(0, 4)), 6},
		{calls(add(0, "abcdefghij"), drop(0)), 10},
		{calls(add(0, "abcdefghij"), drop(0), drop(0)), 10},
		{calls(add(0, "abcd"), add(1, "efg"), fix(1), drop(0)), 7},
		{calls(add(0, "abcdefghij"), drop(1)), 0},
		{calls(add(0, "abcdefghij"), cut(1, 0)), 0},
		{calls(add(0, "abcdefghij"), crash()), 10},
		{calls(add(0, "abcdefghij"), crash(4)), 6},
		{calls(add(0, "abcdefghij"), crash(10)), 0},
		{calls(add(0, "abcd"), fix(0), add(0, "efghij"), crash(1)), 5},
		{calls(add(0, "abcd"), add(1, "efgh"), crash(1, 2)), 7},
		{calls(arm(1), add(0, "abcd").gives(api.ErrDead), crash(3)), 7},
		{calls(add(0, "abcd"), arm(1), cut(0, 0).gives(api.ErrDead), crash(3)), 7},
		{calls(add(0, "abcd"), fix(0), arm(1), drop(0).gives(api.ErrDead), crash()), 6},
	} {
		for _, file := range []int{0, 1, 9, 65535} {
			d := after(t, 10, c.ahead...)
			size, steps, files := d.Size(), d.Steps(), d.Files()
			if size != 10-c.room {
				t.Errorf("%s: %d bytes, not %d", textOf(c.ahead), size, 10-c.room)
			}
			for more := 1; more < 15; more++ {
				run(t, d, add(file, strings.Repeat("x", c.room+more)).gives(api.ErrFull))
			}
			if d.Size() != size || d.Steps() != steps || !slices.Equal(d.Files(), files) {
				t.Errorf("%s: an Append that was refused changed something: files %v", textOf(c.ahead), d.Files())
			}
			run(t, d, add(file, strings.Repeat("x", c.room)), add(file, ""), add(9, ""), add(file, "y").gives(api.ErrFull), add(7, "y").gives(api.ErrFull))
			if d.Size() != 10 || d.Steps() != steps+3 || slices.Contains(d.Files(), 7) {
				t.Errorf("%s: %d bytes, %d steps, files %v", textOf(c.ahead), d.Size(), d.Steps(), d.Files())
			}
		}
	}
}

// P16.2: bytes of each value are what Read returns.
func TestBytesOfEachValue(t *testing.T) {
	all := ""
	for b := range 256 {
		all += string([]byte{byte(b)})
	}
	d := after(t, 1000, add(0, all), fix(0), add(0, "\x00\xff\x00"), crash(2))
	if text, e := d.Read(0); text != all+"\x00\xff" || e != api.OK {
		t.Errorf("Read is %x, %d", text, e)
	}
}

// P16.2: many small Appends are one file.
func TestManyAppends(t *testing.T) {
	d := newDisk(t, 300000)
	want := noise(rand.New(rand.NewSource(61)), 300000)
	for i := range len(want) {
		if e := d.Append(i%2, want[i:i+1]); e != api.OK {
			t.Fatalf("Append %d is %d", i, e)
		}
	}
	even, _ := d.Read(0)
	odd, _ := d.Read(1)
	for i := range len(want) {
		if text := []string{even, odd}[i%2]; len(text) != 150000 || text[i/2] != want[i] {
			t.Fatalf("byte %d is another one", i)
		}
	}
	wantSteps(t, d, 300000)
}
