package seglog_test

import (
	"encoding/binary"
	"fmt"
	"hash/crc32"
	"math/rand"
	"slices"
	"strings"
	"testing"

	"vitrine/api"
	"vitrine/disk"
	"vitrine/seglog"
)

// Frames, byte by byte, with sums that another program told.
const (
	states0 = "\x00\x00\x00\x04\x21\x44\xdf\x1c\x00\x00\x00\x00"
	states1 = "\x00\x00\x00\x04\x56\x43\xef\x8a\x00\x00\x00\x01"
	states2 = "\x00\x00\x00\x04\xcf\x4a\xbe\x30\x00\x00\x00\x02"
	states3 = "\x00\x00\x00\x04\xb8\x4d\x8e\xa6\x00\x00\x00\x03"
	frameA  = "\x00\x00\x00\x01\xe8\xb7\xbe\x43a"
	frameBC = "\x00\x00\x00\x02\xc2\xa9\x2b\x38bc"
	frameD  = "\x00\x00\x00\x01\x98\xdd\x4a\xccd"
	frameX  = "\x00\x00\x00\x01\x8c\xdc\x16\x83x"
	frameY  = "\x00\x00\x00\x01\xfb\xdb\x26\x15y"
)

// most is the length of the longest record.
const most = 1000000

// long is a record of so many bytes.
func long(n int) string { return strings.Repeat("z", n) }

// be is a number as 4 bytes.
func be(n uint32) string { return string(binary.BigEndian.AppendUint32(nil, n)) }

// framed is the frames of texts, be they records or not.
func framed(texts ...string) string {
	s := ""
	for _, text := range texts {
		s += be(uint32(len(text))) + be(crc32.ChecksumIEEE([]byte(text))) + text
	}
	return s
}

// laid is a file whose first record states a number, with records behind it.
func laid(n uint32, records ...string) string { return framed(be(n)) + framed(records...) }

// step is a call on a disk, and the error that it is to return.
type step struct {
	text string
	do   func(d *disk.Disk) api.Errno
	want api.Errno
}

func add(file int, data string) step {
	return step{fmt.Sprintf("d.Append(%d, %.60q)", file, data), func(d *disk.Disk) api.Errno { return d.Append(file, data) }, api.OK}
}

func fix(file int) step {
	return step{fmt.Sprintf("d.Sync(%d)", file), func(d *disk.Disk) api.Errno { return d.Sync(file) }, api.OK}
}

func cut(file, size int) step {
	return step{fmt.Sprintf("d.Cut(%d, %d)", file, size), func(d *disk.Disk) api.Errno { return d.Cut(file, size) }, api.OK}
}

func drop(file int) step {
	return step{fmt.Sprintf("d.Drop(%d)", file), func(d *disk.Disk) api.Errno { return d.Drop(file) }, api.OK}
}

func arm(n int) step {
	return step{fmt.Sprintf("d.Arm(%d)", n), func(d *disk.Disk) api.Errno { d.Arm(n); return api.OK }, api.OK}
}

func crash(keeps ...int) step {
	return step{fmt.Sprintf("d.Crash(%v)", keeps), func(d *disk.Disk) api.Errno { d.Crash(keeps...); return api.OK }, api.OK}
}

// gives is the same step, which is to return an error.
func (s step) gives(e api.Errno) step {
	s.want = e
	return s
}

// steps is a list of steps.
func steps(list ...step) []step { return list }

// call is a call on a log, and the error that it is to return.
type call struct {
	text string
	do   func(l *seglog.Log) api.Errno
	want api.Errno
}

func put(records ...string) call {
	return call{fmt.Sprintf("Append(%.20q)", records), func(l *seglog.Log) api.Errno { return l.Append(records...) }, api.OK}
}

func firm() call {
	return call{"Sync()", func(l *seglog.Log) api.Errno { return l.Sync() }, api.OK}
}

func pack(records ...string) call {
	return call{fmt.Sprintf("Compact(%.20q)", records), func(l *seglog.Log) api.Errno { return l.Compact(records...) }, api.OK}
}

// gives is the same call, which is to return an error.
func (c call) gives(e api.Errno) call {
	c.want = e
	return c
}

// calls is a list of calls.
func calls(list ...call) []call { return list }

// newDisk is a new disk on which steps were done.
func newDisk(t *testing.T, limit int, list ...step) *disk.Disk {
	t.Helper()
	d, e := disk.New(limit)
	if d == nil || e != api.OK {
		t.Fatalf("New(%d) is %v, %d", limit, d != nil, e)
	}
	do(t, d, list...)
	return d
}

// do does steps, and holds the errors that they return against those that they are to return.
func do(t *testing.T, d *disk.Disk, list ...step) {
	t.Helper()
	for _, s := range list {
		if e := s.do(d); e != s.want {
			t.Fatalf("%s is %d, not %d", s.text, e, s.want)
		}
	}
}

// open is the log on a disk, which is to have these records.
func open(t *testing.T, d *disk.Disk, want ...string) *seglog.Log {
	t.Helper()
	l, records, e := seglog.Open(d)
	if l == nil || e != api.OK || !slices.Equal(records, want) {
		t.Fatalf("Open is %t, %.80q, %d; not %.80q", l != nil, records, e, want)
	}
	return l
}

// wantNoLog wants that Open returns an error, and nothing beside it.
func wantNoLog(t *testing.T, d *disk.Disk, want api.Errno) {
	t.Helper()
	if l, records, e := seglog.Open(d); l != nil || len(records) != 0 || e != want {
		t.Errorf("Open is %t, %.80q, %d; not %d", l != nil, records, e, want)
	}
}

// run does calls, and holds the errors that they return against those that they are to return.
func run(t *testing.T, l *seglog.Log, list ...call) {
	t.Helper()
	for i, c := range list {
		if e := c.do(l); e != c.want {
			t.Fatalf("%s behind %s is %d, not %d", c.text, textOf(list[:i]), e, c.want)
		}
	}
}

// textOf is the calls' texts.
func textOf(list []call) string {
	var texts []string
	for _, c := range list {
		texts = append(texts, c.text)
	}
	return strings.Join(texts, ", ")
}

// begin is a new disk of a million bytes, and its log on which calls were done.
func begin(t *testing.T, list ...call) (*disk.Disk, *seglog.Log) {
	t.Helper()
	d := newDisk(t, most)
	l := open(t, d)
	run(t, l, list...)
	return d, l
}

// wantFile wants that a disk has one file, with these bytes.
func wantFile(t *testing.T, d *disk.Disk, file int, want string) {
	t.Helper()
	text, e := d.Read(file)
	if !slices.Equal(d.Files(), []int{file}) || text != want || e != api.OK {
		t.Errorf("files %v; file %d is %.200q, %d; not %.200q", d.Files(), file, text, e, want)
	}
}

// wantNoFile wants that a disk has none.
func wantNoFile(t *testing.T, d *disk.Disk) {
	t.Helper()
	if len(d.Files()) != 0 || d.Size() != 0 {
		t.Errorf("files %v of %d bytes", d.Files(), d.Size())
	}
}

// sameDisks wants that two disks tell the same.
func sameDisks(t *testing.T, d, twin *disk.Disk, of string) {
	t.Helper()
	if !slices.Equal(d.Files(), twin.Files()) || d.Size() != twin.Size() || d.Dead() != twin.Dead() || d.Steps() != twin.Steps() {
		t.Fatalf("%s: files %v, %d bytes, dead: %t, %d steps; not %v, %d, %t, %d", of, d.Files(), d.Size(), d.Dead(), d.Steps(), twin.Files(), twin.Size(), twin.Dead(), twin.Steps())
	}
	for _, file := range d.Files() {
		text, e := d.Read(file)
		want, wantE := twin.Read(file)
		if text != want || e != wantE {
			t.Fatalf("%s: file %d is %.100q, %d; not %.100q, %d", of, file, text, e, want, wantE)
		}
	}
}

// all keeps all of up to 41 bytes that are not synced: it is one less than a number that each of 1 to 42 divides.
const all = 219060189739591199

// keepLists are what of the bytes that are not synced remains in up to three files: none, some, all.
func keepLists() [][]int {
	return [][]int{
		{}, {1}, {8}, {9}, {12}, {13}, {20}, {21}, {30}, {0, 1}, {0, 9}, {0, 12}, {0, 21}, {1, 1}, {9, 9}, {12, 21}, {21, 12}, {33, 33},
		{all}, {0, all}, {all, all}, {0, 0, all}, {all, all, all}, {0, 1, 1},
	}
}

// scene makes a disk and the log on it, if there is one, the same ones at each call.
type scene func(t *testing.T) (*disk.Disk, *seglog.Log)

// wantSteps wants that a call returns OK and is just these steps of the disk: at each step the disk may die,
// and be it dead or not, the same must remain behind a crash as when the steps alone were done.
func wantSteps(t *testing.T, s scene, name string, do func(d *disk.Disk, l *seglog.Log) api.Errno, list ...step) {
	t.Helper()
	for n := range len(list) + 2 {
		for _, keeps := range keepLists() {
			d, l := s(t)
			twin, _ := s(t)
			d.Arm(n)
			twin.Arm(n)
			e := do(d, l)
			want := api.OK
			for _, s := range list {
				if want == api.OK {
					want = s.do(twin)
				}
			}
			of := fmt.Sprintf("%s, armed at %d, keeps %v", name, n, keeps)
			if e != want || (e == api.OK) != (n < 1 || n > len(list)) {
				t.Fatalf("%s is %d, not %d", of, e, want)
			}
			sameDisks(t, d, twin, of)
			d.Crash(keeps...)
			twin.Crash(keeps...)
			sameDisks(t, d, twin, of)
			if t.Failed() {
				return
			}
		}
	}
}

// openIs is Open, as a call of wantSteps.
func openIs(want ...string) func(d *disk.Disk, l *seglog.Log) api.Errno {
	return func(d *disk.Disk, _ *seglog.Log) api.Errno {
		l, records, e := seglog.Open(d)
		if e != api.OK && (l != nil || len(records) != 0) || e == api.OK && (l == nil || !slices.Equal(records, want)) {
			return -1
		}
		return e
	}
}

// callIs is a call on a log, as a call of wantSteps.
func callIs(c call) func(d *disk.Disk, l *seglog.Log) api.Errno {
	return func(_ *disk.Disk, l *seglog.Log) api.Errno { return c.do(l) }
}

// model is a log in the chapter's words, which does its steps on a disk of its own.
type model struct {
	d     *disk.Disk
	file  int
	begun bool
	told  bool // a call has returned ErrDead
}

// perform does steps up to the first one that returns an error.
func (m *model) perform(list ...step) api.Errno {
	for _, s := range list {
		if e := s.do(m.d); e != api.OK {
			m.told = m.told || e == api.ErrDead
			return e
		}
	}
	return api.OK
}

// recordsOf is the records of a file, and how many bytes their frames have.
func recordsOf(text string) ([]string, int) {
	var list []string
	for end := 0; ; end = len(framed(list...)) {
		found := false
		if len(text)-end >= 9 {
			size := int64(binary.BigEndian.Uint32([]byte(text[end:])))
			if size >= 1 && size <= 1000000 && int64(len(text)-end-8) >= size {
				record := text[end+8 : end+8+int(size)]
				if found = text[end:end+8]+record == framed(record); found {
					list = append(list, record)
				}
			}
		}
		if !found {
			return list, end
		}
	}
}

// modelOpen is Open in the chapter's words: the log, its records and an error.
func modelOpen(d *disk.Disk) (*model, []string, api.Errno) {
	if d.Dead() {
		return nil, nil, api.ErrDead
	}
	m := &model{d: d}
	var own []string
	var plan, last []step
	for _, file := range d.Files() {
		text, _ := d.Read(file)
		records, end := recordsOf(text)
		if len(records) > 0 && len(records[0]) == 4 && int64(binary.BigEndian.Uint32([]byte(records[0]))) <= int64(len(records)-1) {
			m.file, m.begun, own, last = file, true, records[1:], nil
			if end < len(text) {
				last = steps(cut(file, end))
			}
			last = append(last, fix(file))
		}
	}
	for _, file := range d.Files() {
		if !m.begun || file != m.file {
			plan = append(plan, drop(file))
		}
	}
	if e := m.perform(append(plan, last...)...); e != api.OK {
		return nil, nil, e
	}
	return m, own, api.OK
}

// refused is the first error of those that come ahead of the disk's.
func (m *model) refused(records []string) api.Errno {
	if m.told {
		return api.ErrDead
	}
	for _, r := range records {
		if len(r) < 1 || len(r) > 1000000 {
			return api.ErrArg
		}
	}
	return api.OK
}

func (m *model) put(records ...string) api.Errno {
	if e := m.refused(records); e != api.OK || len(records) == 0 {
		return e
	}
	data := framed(records...)
	if !m.begun {
		data = framed("\x00\x00\x00\x00") + data
	}
	e := m.perform(add(m.file, data))
	m.begun = m.begun || e == api.OK
	return e
}

func (m *model) firm() api.Errno {
	if e := m.refused(nil); e != api.OK || !m.begun {
		return e
	}
	return m.perform(fix(m.file))
}

func (m *model) pack(records ...string) api.Errno {
	if e := m.refused(records); e != api.OK {
		return e
	}
	e := m.perform(add(m.file+1, laid(uint32(len(records)), records...)), fix(m.file+1), drop(m.file))
	if e == api.OK {
		m.file, m.begun = m.file+1, true
	}
	return e
}

// noise is n bytes without a rule.
func noise(rnd *rand.Rand, n int) string {
	b := make([]byte, n)
	rnd.Read(b)
	return string(b)
}
