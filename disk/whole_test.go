package disk_test

import (
	"bytes"
	"math"
	"math/rand"
	"strings"
	"sync"
	"testing"
	"unsafe"

	"vitrine/api"
	"vitrine/disk"
)

// P16.2, P16.3, P16.4: all short lists of calls, against the chapter's words.
func TestAllShortLists(t *testing.T) {
	kinds := calls(
		add(0, "ab"), add(0, ""), add(1, "c"), add(1, "defg"), fix(0), fix(1), cut(0, 0), cut(0, 1), cut(0, 2), cut(1, 1), drop(0), drop(1),
		arm(1), arm(2), arm(0), crash(), crash(1), crash(-2, 1), crash(2, -3),
	)
	var list []call
	var grow func(left int)
	grow = func(left int) {
		if left == 0 {
			likeModel(t, 5, list...)
			return
		}
		for _, c := range kinds {
			list = append(list, c)
			grow(left - 1)
			list = list[:len(list)-1]
		}
	}
	grow(4)
}

// anyCall is a call at random, with arguments that are right more often than not.
func anyCall(rnd *rand.Rand, d *disk.Disk, limit int) call {
	file := []int{0, 1, 2, 3, 255, 256, 65535, rnd.Intn(65536)}[rnd.Intn(8)]
	if rnd.Intn(20) == 0 {
		file = wrongFiles()[rnd.Intn(len(wrongFiles()))]
	}
	text, _ := d.Read(file)
	number := func() int {
		return []int{rnd.Intn(5), rnd.Intn(40) - 20, rnd.Int(), -rnd.Int(), math.MinInt, math.MaxInt}[rnd.Intn(6)]
	}
	switch rnd.Intn(12) {
	case 0, 1, 2, 3:
		return add(file, noise(rnd, rnd.Intn(1+limit/(1+rnd.Intn(6)))))
	case 4, 5:
		return fix(file)
	case 6:
		return cut(file, rnd.Intn(len(text)+2))
	case 7:
		return cut(file, number())
	case 8:
		return drop(file)
	case 9:
		return arm([]int{rnd.Intn(6), rnd.Intn(3), number()}[rnd.Intn(3)])
	}
	var keeps []int
	for range rnd.Intn(5) {
		keeps = append(keeps, number())
	}
	return crash(keeps...)
}

// P16.2, P16.3, P16.4: long lists of calls at random, against the chapter's words.
func TestRandomCalls(t *testing.T) {
	rnd := rand.New(rand.NewSource(1616))
	deaths, full, wrong := 0, 0, 0
	for range 3000 {
		limit := 1 + rnd.Intn(1+rnd.Intn(100))
		d, m := newDisk(t, limit), &model{limit: limit}
		var list []call
		for range 60 {
			c := anyCall(rnd, d, limit)
			living := !d.Dead()
			switch sameAsModel(t, d, m, c, list) {
			case api.ErrFull:
				full++
			case api.ErrArg:
				wrong++
			}
			if living && d.Dead() {
				deaths++
			}
			list = append(list, c)
		}
	}
	if deaths < 1000 || full < 1000 || wrong < 1000 {
		t.Errorf("only %d deaths, %d times full, %d wrong arguments", deaths, full, wrong)
	}
}

// kept is what is known of a file from the calls alone: bytes that are synced, and those that were appended since.
type kept struct{ firm, loose string }

// P16.5, P16.3: bytes that were synced, and neither cut nor dropped, remain behind any crash, followed by a beginning of those that were appended since.
func TestNothingSyncedIsLost(t *testing.T) {
	rnd := rand.New(rand.NewSource(165))
	lost := 0
	for range 2000 {
		d := newDisk(t, 1000)
		files := map[int]kept{}
		for range 30 {
			file := rnd.Intn(4)
			k, exists := files[file]
			switch rnd.Intn(8) {
			case 0, 1, 2:
				data := noise(rnd, rnd.Intn(9))
				if d.Append(file, data) != api.ErrFull {
					files[file] = kept{k.firm, k.loose + data}
				}
			case 3:
				if e := d.Sync(file); e == api.OK && exists {
					files[file] = kept{k.firm + k.loose, ""}
				}
			case 4:
				size := rnd.Intn(len(k.firm) + len(k.loose) + 1)
				if e := d.Cut(file, size); e == api.OK && exists {
					files[file] = kept{(k.firm + k.loose)[:size], ""}
				}
			case 5:
				if e := d.Drop(file); e == api.OK {
					delete(files, file)
				}
			case 6:
				d.Arm(rnd.Intn(4))
			}
			if d.Dead() || rnd.Intn(8) == 0 {
				lost += crashed(t, rnd, d, files)
			}
		}
	}
	if lost < 1000 {
		t.Errorf("only %d bytes were lost", lost)
	}
}

// crashed is a crash with any keeps, behind which the files are held against what is known of them; it tells how many bytes were lost.
func crashed(t *testing.T, rnd *rand.Rand, d *disk.Disk, files map[int]kept) int {
	t.Helper()
	d.Crash(rnd.Intn(20)-10, rnd.Int(), -rnd.Int())
	list := d.Files()
	if len(list) != len(files) {
		t.Fatalf("files %v, not %d ones", list, len(files))
	}
	lost := 0
	for _, file := range list {
		text, e := d.Read(file)
		k, exists := files[file]
		if e != api.OK || !exists || !strings.HasPrefix(text, k.firm) || !strings.HasPrefix(k.firm+k.loose, text) {
			t.Fatalf("file %d is %x, %d; %x was synced, and %x appended since", file, text, e, k.firm, k.loose)
		}
		lost += len(k.firm) + len(k.loose) - len(text)
		files[file] = kept{text, ""}
	}
	return lost
}

// R2: data is not changed, nor is the memory around it; and it is not kept.
func TestDataIsNotKept(t *testing.T) {
	for n := range 40 {
		memory := []byte("ahead of it" + strings.Repeat("d", n) + "and behind it")
		before := bytes.Clone(memory)
		data := unsafe.String(&memory[11], n)
		d := newDisk(t, 100)
		run(t, d, add(0, data), add(1, data), fix(0), add(0, "x"), cut(1, n/2), add(1, "yz"), crash(1, 1))
		if !bytes.Equal(memory, before) {
			t.Fatalf("%d bytes: the memory is changed: %s", n, memory)
		}
		clear(memory)
		wantFiles(t, d, "0="+strings.Repeat("d", n)+"x 1="+strings.Repeat("d", n/2)+"y")
	}
}

// R2: what Read returned stays as it is, whatever is done to the file then.
func TestReadIsNew(t *testing.T) {
	d := after(t, 100, add(0, "abcdefgh"), fix(0), add(0, "ijkl"))
	first, _ := d.Read(0)
	run(t, d, cut(0, 2), add(0, "123456789"))
	second, _ := d.Read(0)
	run(t, d, crash(3), add(0, "uvwxyz"))
	third, _ := d.Read(0)
	run(t, d, drop(0), add(0, "other bytes"))
	if first != "abcdefghijkl" || second != "ab123456789" || third != "ab123uvwxyz" {
		t.Errorf("Read was %q, %q, %q", first, second, third)
	}
	again, _ := d.Read(0)
	more, _ := d.Read(0)
	if unsafe.StringData(again) == unsafe.StringData(more) {
		t.Error("two results share their memory")
	}
}

// R3: the same calls on two disks return the same, whatever is done with other disks in between.
func TestSameCallsSameResults(t *testing.T) {
	rnd := rand.New(rand.NewSource(33))
	for range 300 {
		a, b, other := newDisk(t, 50), newDisk(t, 50), newDisk(t, 50)
		m := &model{limit: 50}
		var list []call
		for range 40 {
			c := anyCall(rnd, a, 50)
			sameAsModel(t, a, m, c, list)
			anyCall(rnd, other, 50).do(other)
			list = append(list, c)
		}
		again := &model{limit: 50}
		for i, c := range list {
			sameAsModel(t, b, again, c, list[:i])
			anyCall(rnd, other, 50).do(other)
		}
	}
}

// R3: disks of several goroutines do not know of each other.
func TestDisksAtOnce(t *testing.T) {
	var group sync.WaitGroup
	for seed := range 8 {
		group.Go(func() {
			rnd := rand.New(rand.NewSource(int64(seed)))
			for range 50 {
				d, e := disk.New(50)
				if e != api.OK {
					t.Errorf("New is %d", e)
					return
				}
				m := &model{limit: 50}
				for range 40 {
					c := anyCall(rnd, d, 50)
					if e, want := c.do(d), c.do(m); e != want || d.Size() != m.Size() || d.Steps() != m.Steps() {
						t.Errorf("%s is %d, not %d; %d bytes, %d steps", c.text, e, want, d.Size(), d.Steps())
						return
					}
				}
			}
		})
	}
	group.Wait()
}
