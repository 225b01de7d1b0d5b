package seglog_test

import (
	"bytes"
	"fmt"
	"math"
	"math/rand"
	"slices"
	"strings"
	"sync"
	"testing"
	"unsafe"

	"vitrine/api"
	"vitrine/disk"
	"vitrine/seglog"
)

// anyText is what a file may have, valid more often than not.
func anyText(rnd *rand.Rand) string {
	records := anyRecords(rnd)
	text := laid(uint32(len(records)+rnd.Intn(3)-rnd.Intn(3)), records...)
	switch rnd.Intn(10) {
	case 0:
		return text[:rnd.Intn(len(text)+1)]
	case 1:
		b := []byte(text)
		b[rnd.Intn(len(b))] ^= 1 << rnd.Intn(8)
		return string(b)
	case 2:
		at := rnd.Intn(len(text))
		return text[:at] + text[at+1:]
	case 3, 4:
		return text + noise(rnd, rnd.Intn(20))
	case 5:
		return text + framed(noise(rnd, 5))[:rnd.Intn(14)]
	case 6:
		return framed(noise(rnd, 1+rnd.Intn(6))) + framed(records...)
	case 7:
		return noise(rnd, rnd.Intn(30))
	}
	return text
}

// anyRecords are some short records.
func anyRecords(rnd *rand.Rand) []string {
	var records []string
	for range rnd.Intn(5) {
		records = append(records, noise(rnd, 1+rnd.Intn(6)))
	}
	return records
}

// anyFile is the number of a file.
func anyFile(rnd *rand.Rand) int {
	return []int{0, 0, 1, 1, 2, 3, 9, 10, 255, 256, 65534, 65535, rnd.Intn(65536)}[rnd.Intn(13)]
}

// anyStep is a step of a disk at random that is none of a log.
func anyStep(rnd *rand.Rand) step {
	file := anyFile(rnd)
	switch rnd.Intn(8) {
	case 0:
		return add(file, anyText(rnd))
	case 1:
		return fix(file)
	case 2:
		return cut(file, rnd.Intn(40))
	case 3:
		return drop(file)
	case 4, 5:
		return arm(rnd.Intn(8))
	}
	return crash(rnd.Intn(60), -rnd.Intn(60), rnd.Int(), math.MinInt)
}

// pair is a disk with its log, and a twin of the disk with the model of the log.
type pair struct {
	d, twin *disk.Disk
	l       *seglog.Log
	m       *model
	own     []string // what Open returned
	told    []string // what was done
	errors  map[api.Errno]int
}

// open opens both logs.
func (p *pair) open(t *testing.T) {
	t.Helper()
	l, own, e := seglog.Open(p.d)
	m, want, wantE := modelOpen(p.twin)
	p.told = append(p.told, "Open")
	if e != wantE || !slices.Equal(own, want) || (l == nil) != (m == nil) {
		t.Fatalf("behind %q: %t, %q, %d; not %t, %q, %d", p.told, l != nil, own, e, m != nil, want, wantE)
	}
	p.errors[e]++
	sameDisks(t, p.d, p.twin, strings.Join(p.told, " "))
	if e == api.OK {
		p.l, p.m, p.own = l, m, own
	}
}

// step does a step on both disks.
func (p *pair) step(t *testing.T, s step) {
	t.Helper()
	p.told = append(p.told, s.text)
	if e, want := s.do(p.d), s.do(p.twin); e != want {
		t.Fatalf("behind %q: %d, not %d", p.told, e, want)
	}
	sameDisks(t, p.d, p.twin, strings.Join(p.told, " "))
}

// call does a call on both logs, if there are any.
func (p *pair) call(t *testing.T, rnd *rand.Rand) {
	t.Helper()
	if p.l == nil {
		return
	}
	records := anyRecords(rnd)
	if rnd.Intn(12) == 0 {
		records = append(records, "")
	}
	var c call
	var want api.Errno
	switch rnd.Intn(4) {
	case 0, 1:
		c, want = put(records...), p.m.put(records...)
	case 2:
		c, want = firm(), p.m.firm()
	case 3:
		c, want = pack(records...), p.m.pack(records...)
	}
	p.told = append(p.told, c.text)
	if e := c.do(p.l); e != want {
		t.Fatalf("behind %q: %d, not %d", p.told, e, want)
	}
	p.errors[want]++
	sameDisks(t, p.d, p.twin, strings.Join(p.told, " "))
}

// P17.1 to P17.4, R3: calls at random on disks with anything on them, against the chapter's words on a twin of the disk.
func TestRandomCalls(t *testing.T) {
	rnd := rand.New(rand.NewSource(17))
	errors, opened := map[api.Errno]int{}, 0
	for range 20000 {
		limit := 1 + rnd.Intn(1+rnd.Intn(500))
		p := &pair{d: newDisk(t, limit), twin: newDisk(t, limit), errors: errors}
		for range rnd.Intn(4) {
			p.step(t, add(anyFile(rnd), anyText(rnd)))
		}
		p.open(t)
		if len(p.own) > 0 {
			opened++
		}
		for range 15 {
			switch rnd.Intn(12) {
			case 0, 1:
				p.step(t, anyStep(rnd))
			case 2:
				p.open(t)
			case 3:
				p.step(t, crash(rnd.Intn(60), rnd.Intn(60)))
			default:
				p.call(t, rnd)
			}
		}
		p.step(t, crash(rnd.Intn(60), rnd.Intn(60), rnd.Intn(60)))
		p.open(t)
	}
	for _, e := range []api.Errno{api.OK, api.ErrArg, api.ErrDead, api.ErrFull} {
		if errors[e] < 1000 {
			t.Errorf("only %d times %d", errors[e], e)
		}
	}
	if opened < 1000 {
		t.Errorf("only %d disks had records", opened)
	}
}

// P17.1: files at random, of which the greatest valid one counts, against the chapter's words.
func TestOpenOfAnyFiles(t *testing.T) {
	rnd := rand.New(rand.NewSource(171))
	own, cuts := 0, 0
	for range 20000 {
		p := &pair{d: newDisk(t, 100000), twin: newDisk(t, 100000), errors: map[api.Errno]int{}}
		for range 1 + rnd.Intn(6) {
			p.step(t, add(anyFile(rnd), anyText(rnd)))
			if rnd.Intn(3) == 0 {
				p.step(t, fix(anyFile(rnd)))
			}
		}
		p.step(t, arm(rnd.Intn(9)))
		size := p.d.Size()
		p.open(t)
		p.step(t, crash(rnd.Intn(60), rnd.Intn(60), rnd.Intn(60)))
		p.open(t)
		if len(p.own) > 0 {
			own++
		}
		if len(p.d.Files()) == 1 && p.d.Size() < size {
			cuts++
		}
	}
	if own < 5000 || cuts < 5000 {
		t.Errorf("only %d logs with records, %d disks that lost bytes", own, cuts)
	}
}

// R2: the strings and lists handed in are not changed, nor is the memory around them; and they are not kept.
func TestArgumentsAreNotKept(t *testing.T) {
	for n := 1; n < 40; n++ {
		memory := []byte("ahead of it" + strings.Repeat("d", n) + "and behind it")
		before := bytes.Clone(memory)
		record := unsafe.String(&memory[11], n)
		list := []string{"ahead", record, "a", record, "behind", "behind that"}
		held := slices.Clone(list)
		d, l := begin(t)
		run(t, l, call{"Append", func(l *seglog.Log) api.Errno { return l.Append(list[1:4]...) }, api.OK}, firm())
		wantFile(t, d, 0, laid(0, record, "a", record))
		run(t, l, call{"Compact", func(l *seglog.Log) api.Errno { return l.Compact(list[1:4]...) }, api.OK})
		run(t, l, call{"Append", func(l *seglog.Log) api.Errno { return l.Append(list[1:2]...) }, api.OK})
		if !bytes.Equal(memory, before) || !slices.Equal(list, held) {
			t.Fatalf("%d bytes: the memory is changed: %s, %q", n, memory, list)
		}
		clear(memory)
		clear(list)
		text := strings.Repeat("d", n)
		wantFile(t, d, 1, laid(3, text, "a", text, text))
		open(t, d, text, "a", text, text)
		run(t, l, pack("a"), put("bc"))
		wantFile(t, d, 2, states1+frameA+frameBC)
	}
}

// R2: lists with wrong records are not changed either.
func TestWrongArgumentsAreNotChanged(t *testing.T) {
	for _, list := range wrongLists() {
		roomy := append(slices.Grow(list, 8), "behind")
		held := slices.Clone(roomy)
		_, l := begin(t)
		for range 2 {
			if l.Append(roomy[:len(list)]...) != api.ErrArg || l.Compact(roomy[:len(list)]...) != api.ErrArg {
				t.Error("no ErrArg")
			}
		}
		if !slices.Equal(roomy, held) {
			t.Error("the list is changed")
		}
	}
}

// R2: records that Open returned stay as they are, and do not keep the memory of the whole file.
func TestRecordsOfOpenAreNew(t *testing.T) {
	d := newDisk(t, 1000, add(0, laid(0, "a", "bc", "def")))
	_, first, _ := seglog.Open(d)
	l, second, _ := seglog.Open(d)
	for i := range first {
		if unsafe.StringData(first[i]) == unsafe.StringData(second[i]) {
			t.Errorf("record %d of two results is in one place", i)
		}
	}
	run(t, l, pack("x"), put("y"))
	do(t, d, cut(1, 0), add(1, "other bytes"), drop(1))
	if !slices.Equal(first, []string{"a", "bc", "def"}) || !slices.Equal(second, first) {
		t.Errorf("the records are %q, %q", first, second)
	}
}

// R3: logs of several goroutines on disks of their own do not know of each other, and the same calls return the same.
func TestLogsAtOnce(t *testing.T) {
	var group sync.WaitGroup
	texts := make([]string, 8)
	for i := range texts {
		group.Go(func() {
			rnd := rand.New(rand.NewSource(int64(i / 2)))
			for range 50 {
				d, e := disk.New(300)
				if e != api.OK {
					t.Errorf("New is %d", e)
					return
				}
				l, _, _ := seglog.Open(d)
				for range 30 {
					a := anyAct(rnd)
					texts[i] += fmt.Sprint(a.do(l), d.Files(), d.Size(), d.Steps())
				}
				_, own, e := seglog.Open(d)
				texts[i] += fmt.Sprint(own, e)
			}
		})
	}
	group.Wait()
	for i := 0; i < len(texts); i += 2 {
		if texts[i] != texts[i+1] {
			t.Errorf("goroutines %d and %d tell different things", i, i+1)
		}
	}
}

// P17.1: great files are opened in one go: many records, and many bytes that are no frames.
func TestOpenOfGreatFiles(t *testing.T) {
	text := laid(900000) + strings.Repeat(frameA, 900000)
	_, own, e := seglog.Open(newDisk(t, 1<<24, add(0, text), add(1, text[:len(text)-1])))
	if len(own) != 900000 || e != api.OK {
		t.Errorf("%d records, %d", len(own), e)
	}
	d := newDisk(t, 1<<24, add(3, laid(0)+strings.Repeat("\x00", 1<<24-12)))
	open(t, d)
	wantFile(t, d, 3, states0)
	d = newDisk(t, 1<<24)
	for file := range 65536 {
		do(t, d, add(file, states0[:file%13]))
	}
	open(t, d)
	if files := d.Files(); !slices.Equal(files, []int{65532}) {
		t.Errorf("files %v", files)
	}
}
