package disk_test

import (
	"fmt"
	"math/rand"
	"slices"
	"strings"
	"testing"

	"vitrine/api"
	"vitrine/disk"
)

// device is what a disk and its model have in common.
type device interface {
	Append(file int, data string) api.Errno
	Sync(file int) api.Errno
	Cut(file, size int) api.Errno
	Drop(file int) api.Errno
	Read(file int) (string, api.Errno)
	Files() []int
	Size() int
	Arm(step int)
	Crash(keeps ...int)
	Dead() bool
	Steps() int
}

// call is a call on a device, and the error that it is to return.
type call struct {
	text string
	do   func(d device) api.Errno
	want api.Errno
}

func add(file int, data string) call {
	return call{fmt.Sprintf("Append(%d, %.40q)", file, data), func(d device) api.Errno { return d.Append(file, data) }, api.OK}
}

func fix(file int) call {
	return call{fmt.Sprintf("Sync(%d)", file), func(d device) api.Errno { return d.Sync(file) }, api.OK}
}

func cut(file, size int) call {
	return call{fmt.Sprintf("Cut(%d, %d)", file, size), func(d device) api.Errno { return d.Cut(file, size) }, api.OK}
}

func drop(file int) call {
	return call{fmt.Sprintf("Drop(%d)", file), func(d device) api.Errno { return d.Drop(file) }, api.OK}
}

func read(file int) call {
	return call{fmt.Sprintf("Read(%d)", file), func(d device) api.Errno { _, e := d.Read(file); return e }, api.OK}
}

func arm(step int) call {
	return call{fmt.Sprintf("Arm(%d)", step), func(d device) api.Errno { d.Arm(step); return api.OK }, api.OK}
}

func crash(keeps ...int) call {
	return call{fmt.Sprintf("Crash(%v)", keeps), func(d device) api.Errno { d.Crash(keeps...); return api.OK }, api.OK}
}

// gives is the same call, which is to return an error.
func (c call) gives(e api.Errno) call {
	c.want = e
	return c
}

// calls is a list of calls.
func calls(list ...call) []call { return list }

// changers are one call of each kind that may be a step, for a file.
func changers(file int) []call { return calls(add(file, "x"), fix(file), cut(file, 0), drop(file)) }

// textOf is the calls' texts.
func textOf(list []call) string {
	var texts []string
	for _, c := range list {
		texts = append(texts, c.text)
	}
	return strings.Join(texts, ", ")
}

// newDisk is a new disk.
func newDisk(t *testing.T, limit int) *disk.Disk {
	t.Helper()
	d, e := disk.New(limit)
	if d == nil || e != api.OK {
		t.Fatalf("New(%d) is %v, %d", limit, d != nil, e)
	}
	return d
}

// run does calls, and holds the errors that they return against those that they are to return.
func run(t *testing.T, d device, list ...call) {
	t.Helper()
	for i, c := range list {
		if e := c.do(d); e != c.want {
			t.Errorf("%s behind %s is %d, not %d", c.text, textOf(list[:i]), e, c.want)
		}
	}
}

// after is a new disk on which calls were done.
func after(t *testing.T, limit int, list ...call) *disk.Disk {
	t.Helper()
	d := newDisk(t, limit)
	run(t, d, list...)
	return d
}

// wantFiles holds the files of a disk that is not dead, and their contents, against what is wanted (0=ab 3= 7=c).
func wantFiles(t *testing.T, d device, want string) {
	t.Helper()
	var list []string
	size := 0
	for _, file := range d.Files() {
		text, e := d.Read(file)
		if e != api.OK {
			t.Errorf("Read(%d) is %d", file, e)
		}
		list = append(list, fmt.Sprintf("%d=%s", file, text))
		size += len(text)
	}
	if got := strings.Join(list, " "); got != want || d.Size() != size || d.Dead() {
		t.Errorf("the files are %q of %d bytes, dead: %t; not %q", got, d.Size(), d.Dead(), want)
	}
}

// wantSteps holds the number of steps against what is wanted.
func wantSteps(t *testing.T, d device, want int) {
	t.Helper()
	if n := d.Steps(); n != want {
		t.Errorf("%d steps, not %d", n, want)
	}
}

// wantDead wants a dead disk with these files, of so many bytes and behind so many steps.
func wantDead(t *testing.T, d device, files []int, size, steps int) {
	t.Helper()
	if !d.Dead() || !slices.Equal(d.Files(), files) || d.Size() != size || d.Steps() != steps {
		t.Errorf("dead: %t, files %v, %d bytes, %d steps; not %v, %d, %d", d.Dead(), d.Files(), d.Size(), d.Steps(), files, size, steps)
	}
}

// wantNotArmed wants that a disk does not die at many steps, and leaves its files as they are.
func wantNotArmed(t *testing.T, d device) {
	t.Helper()
	for n := range 50 {
		if e := d.Sync(40000); e != api.OK || d.Dead() {
			t.Fatalf("the disk is armed: step %d is %d", n+1, e)
		}
	}
}

// wantArmedAt wants that a disk dies at a step, and not ahead of it.
func wantArmedAt(t *testing.T, d device, step int) {
	t.Helper()
	for n := 1; n < step; n++ {
		if e := d.Sync(40000); e != api.OK || d.Dead() {
			t.Fatalf("step %d is %d, not step %d", n, e, step)
		}
	}
	if e := d.Sync(40000); e != api.ErrDead || !d.Dead() {
		t.Fatalf("step %d is %d, dead: %t", step, e, d.Dead())
	}
}

// cell is a byte of a file, of which it is known whether it is synced.
type cell struct {
	b      byte
	synced bool
}

// page is a file of the model.
type page struct {
	number int
	cells  []cell
}

// model is a disk in the chapter's words.
type model struct {
	limit  int
	pages  []page // in the order in which they came into being
	steps  []bool // of each step: whether the disk died at it
	armed  bool
	behind uint // how many steps there are ahead of the one at which the disk is armed
	dead   bool
}

// at is the place of a file, or -1.
func (m *model) at(file int) int {
	return slices.IndexFunc(m.pages, func(p page) bool { return p.number == file })
}

// refused is the first error of those that all calls have in common.
func (m *model) refused(file int) api.Errno {
	if m.dead {
		return api.ErrDead
	}
	if file < 0 || file > 65535 {
		return api.ErrArg
	}
	return api.OK
}

// dies is a step, and tells whether the disk dies at it.
func (m *model) dies() bool {
	m.dead = m.armed && m.behind == 0
	m.behind--
	m.steps = append(m.steps, m.dead)
	return m.dead
}

func (m *model) Append(file int, data string) api.Errno {
	if e := m.refused(file); e != api.OK {
		return e
	}
	if m.Size()+len(data) > m.limit {
		return api.ErrFull
	}
	if m.at(file) < 0 {
		m.pages = append(m.pages, page{number: file})
	}
	p := &m.pages[m.at(file)]
	for i := range len(data) {
		p.cells = append(p.cells, cell{b: data[i]})
	}
	if m.dies() {
		return api.ErrDead
	}
	return api.OK
}

func (m *model) Sync(file int) api.Errno {
	if e := m.refused(file); e != api.OK {
		return e
	}
	if m.dies() {
		return api.ErrDead
	}
	if at := m.at(file); at >= 0 {
		for i := range m.pages[at].cells {
			m.pages[at].cells[i].synced = true
		}
	}
	return api.OK
}

func (m *model) Cut(file, size int) api.Errno {
	if e := m.refused(file); e != api.OK {
		return e
	}
	length, at := 0, m.at(file)
	if at >= 0 {
		length = len(m.pages[at].cells)
	}
	if size < 0 || size > length {
		return api.ErrArg
	}
	if m.dies() {
		return api.ErrDead
	}
	if at >= 0 {
		var cells []cell
		for _, c := range m.pages[at].cells[:size] {
			cells = append(cells, cell{c.b, true})
		}
		m.pages[at].cells = cells
	}
	return api.OK
}

func (m *model) Drop(file int) api.Errno {
	if e := m.refused(file); e != api.OK {
		return e
	}
	if m.dies() {
		return api.ErrDead
	}
	if at := m.at(file); at >= 0 {
		m.pages = slices.Delete(m.pages, at, at+1)
	}
	return api.OK
}

func (m *model) Read(file int) (string, api.Errno) {
	if e := m.refused(file); e != api.OK {
		return "", e
	}
	text := ""
	if at := m.at(file); at >= 0 {
		for _, c := range m.pages[at].cells {
			text += string([]byte{c.b})
		}
	}
	return text, api.OK
}

func (m *model) Files() []int {
	var list []int
	for _, p := range m.pages {
		list = append(list, p.number)
	}
	slices.Sort(list)
	return list
}

func (m *model) Size() int {
	size := 0
	for _, p := range m.pages {
		size += len(p.cells)
	}
	return size
}

func (m *model) Arm(step int) {
	m.armed = step >= 1
	m.behind = uint(step) - 1
}

func (m *model) Crash(keeps ...int) {
	next := 0
	for _, file := range m.Files() {
		p := &m.pages[m.at(file)]
		n := 0
		for _, c := range p.cells {
			if !c.synced {
				n++
			}
		}
		if n == 0 {
			continue
		}
		element := uint(0)
		if next < len(keeps) && keeps[next] < 0 {
			element = uint(-(keeps[next] + 1))
		} else if next < len(keeps) {
			element = uint(keeps[next])
		}
		next++
		remain := int(element % uint(n+1))
		p.cells = slices.Clone(p.cells[:len(p.cells)-n+remain])
		for i := range p.cells {
			p.cells[i].synced = true
		}
	}
	m.dead, m.armed = false, false
}

func (m *model) Dead() bool { return m.dead }

func (m *model) Steps() int { return len(m.steps) }

// sameAsModel does a call on a disk and on its model, holds what both tell then against each other, and tells the call's error.
func sameAsModel(t *testing.T, d *disk.Disk, m *model, c call, before []call) api.Errno {
	t.Helper()
	e, want := c.do(d), c.do(m)
	if e != want {
		t.Fatalf("%s behind %s is %d, not %d", c.text, textOf(before), e, want)
	}
	files := m.Files()
	if !slices.Equal(d.Files(), files) || d.Size() != m.Size() || d.Dead() != m.Dead() || d.Steps() != m.Steps() {
		t.Fatalf("%s behind %s: files %v, %d bytes, dead: %t, %d steps; not %v, %d, %t, %d", c.text, textOf(before), d.Files(), d.Size(), d.Dead(), d.Steps(), files, m.Size(), m.Dead(), m.Steps())
	}
	for _, file := range append(files, -1, 0, 65536) {
		text, e := d.Read(file)
		wantText, wantE := m.Read(file)
		if text != wantText || e != wantE {
			t.Fatalf("%s behind %s: Read(%d) is %q, %d, not %q, %d", c.text, textOf(before), file, text, e, wantText, wantE)
		}
	}
	return e
}

// likeModel holds a new disk against the model at each of the calls.
func likeModel(t *testing.T, limit int, list ...call) {
	t.Helper()
	d, m := newDisk(t, limit), &model{limit: limit}
	for i, c := range list {
		sameAsModel(t, d, m, c, list[:i])
	}
}

// noise is n bytes without a rule.
func noise(rnd *rand.Rand, n int) string {
	b := make([]byte, n)
	rnd.Read(b)
	return string(b)
}
