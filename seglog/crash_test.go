package seglog_test

import (
	"fmt"
	"math/rand"
	"slices"
	"testing"

	"vitrine/api"
	"vitrine/disk"
	"vitrine/seglog"
)

// known is what the calls alone tell of a log.
type known struct {
	synced []string
	loose  []string // appended since
	packed []string // what a Compact that was interrupted was given
	torn   bool     // a Compact was interrupted
	full   int      // how often there was no room
}

// act is a call on a log, of which it is known what it does.
type act struct {
	call
	kind    rune // a: Append, s: Sync, c: Compact
	records []string
}

func actPut(records ...string) act  { return act{put(records...), 'a', records} }
func actFirm() act                  { return act{firm(), 's', nil} }
func actPack(records ...string) act { return act{pack(records...), 'c', records} }

// after is what is known behind a call that returned an error or OK.
func (k known) after(a act, e api.Errno) known {
	switch {
	case e == api.ErrFull:
		k.full++
	case a.kind == 'a':
		k.loose = slices.Concat(k.loose, a.records)
	case a.kind == 's' && e == api.OK:
		k.synced, k.loose = slices.Concat(k.synced, k.loose), nil
	case a.kind == 'c' && e == api.OK:
		k = known{synced: a.records, full: k.full}
	case a.kind == 'c':
		k.packed, k.torn = a.records, true
	}
	return k
}

// allows tells whether these may be the records behind a crash.
func (k known) allows(records []string) bool {
	if k.torn && slices.Equal(records, k.packed) {
		return true
	}
	n := len(k.synced)
	whole := slices.Concat(k.synced, k.loose)
	return len(records) >= n && len(records) <= len(whole) && slices.Equal(records, whole[:len(records)])
}

// lived does calls on a log up to one that returns ErrDead, and tells what is known then.
func lived(t *testing.T, l *seglog.Log, k known, list []act) (known, bool) {
	t.Helper()
	for _, a := range list {
		e := a.do(l)
		if e != api.OK && e != api.ErrDead && e != api.ErrFull {
			t.Fatalf("%s is %d", a.text, e)
		}
		k = k.after(a, e)
		if e == api.ErrDead {
			return k, true
		}
	}
	return k, false
}

// wantAllowed wants that Open returns what is known, the disk dying at each step of Open too, and another Open the same.
func wantAllowed(t *testing.T, d *disk.Disk, k known, keeps ...int) []string {
	t.Helper()
	d.Arm(1)
	for n := 2; ; n++ {
		l, records, e := seglog.Open(d)
		if e == api.ErrDead {
			if l != nil || len(records) > 0 {
				t.Fatalf("Open is %t, %q beside ErrDead", l != nil, records)
			}
			d.Crash(keeps...)
			d.Arm(n)
			continue
		}
		if e != api.OK || !k.allows(records) {
			t.Fatalf("Open is %q, %d; synced %q, appended %q, interrupted: %t with %q", records, e, k.synced, k.loose, k.torn, k.packed)
		}
		d.Arm(0)
		open(t, d, records...)
		d.Crash()
		open(t, d, records...)
		return records
	}
}

// crashKeeps are what remains in two files.
func crashKeeps() [][]int {
	var list [][]int
	for _, first := range []int{0, 1, 9, 12, 20, 21, 30, all} {
		for _, second := range []int{0, 11, 21, all} {
			list = append(list, []int{first, second})
		}
	}
	return list
}

// P17.5: all short lists of calls, the disk dying at each of their steps, and with much or little that remains.
func TestEachCrash(t *testing.T) {
	kinds := []act{actPut("a"), actPut("bc", "d"), actFirm(), actPack(), actPack("x"), actPack("y", "x")}
	var lists [][]act
	var grow func(list []act, left int)
	grow = func(list []act, left int) {
		if left == 0 {
			lists = append(lists, list)
			return
		}
		for _, a := range kinds {
			grow(append(slices.Clone(list), a), left-1)
		}
	}
	grow(nil, 3)
	for _, list := range lists {
		for n, dies := 1, true; dies; n++ {
			for _, keeps := range crashKeeps() {
				d := newDisk(t, 1000)
				l := open(t, d)
				d.Arm(n)
				var k known
				if k, dies = lived(t, l, known{}, list); dies {
					d.Crash(keeps...)
				}
				wantAllowed(t, d, k, keeps...)
			}
		}
	}
}

// P17.5: each number of bytes that remains of the old file and of the new one, when a Compact is interrupted.
func TestEachRemainderOfCompact(t *testing.T) {
	for n := 1; n <= 3; n++ {
		for old := range len(frameA+frameBC) + 1 {
			for new := range len(states2+frameX+frameY) + 1 {
				d, l := begin(t, put("d"), firm(), put("a", "bc"))
				do(t, d, arm(n))
				run(t, l, pack("x", "y").gives(api.ErrDead))
				d.Crash(old, new)
				records := wantAllowed(t, d, known{synced: []string{"d"}, loose: []string{"a", "bc"}, packed: []string{"x", "y"}, torn: true})
				whole := n == 3 || new == len(states2+frameX+frameY)
				if whole != slices.Equal(records, []string{"x", "y"}) {
					t.Fatalf("step %d, keeps %d and %d: %q", n, old, new, records)
				}
				if want := 1 + old/9 - old/18 + old/19; !whole && len(records) != want {
					t.Fatalf("step %d, keeps %d and %d: %q", n, old, new, records)
				}
			}
		}
	}
}

// anyAct is a call at random.
func anyAct(rnd *rand.Rand) act {
	var records []string
	for range rnd.Intn(4) {
		record := fmt.Sprint(rnd.Intn(1000000))
		if rnd.Intn(4) == 0 {
			record = noise(rnd, 1+rnd.Intn(30))
		}
		records = append(records, record)
	}
	switch rnd.Intn(6) {
	case 0, 1, 2:
		return actPut(records...)
	case 3, 4:
		return actFirm()
	}
	return actPack(records...)
}

// P17.5, T2: many lives of a log at random, on disks with much room and with little.
func TestManyLives(t *testing.T) {
	rnd := rand.New(rand.NewSource(175))
	deaths, torn, lost, full := 0, 0, 0, 0
	for range 1500 {
		d := newDisk(t, 60+rnd.Intn(2000))
		var records []string
		for range 12 {
			l := open(t, d, records...)
			var list []act
			for range 10 {
				list = append(list, anyAct(rnd))
			}
			if rnd.Intn(4) > 0 {
				d.Arm(rnd.Intn(12))
			}
			k, dies := lived(t, l, known{synced: records}, list)
			keeps := []int{rnd.Intn(100), rnd.Intn(100)}
			if rnd.Intn(3) == 0 {
				keeps = []int{-rnd.Int(), -rnd.Int()}
			}
			d.Crash(keeps...)
			records = wantAllowed(t, d, k, keeps...)
			full += k.full
			lost += max(0, len(k.synced)+len(k.loose)-len(records))
			if dies {
				deaths++
			}
			if k.torn {
				torn++
			}
		}
	}
	if deaths < 3000 || torn < 1000 || lost < 1000 || full < 1000 {
		t.Errorf("only %d deaths, %d in Compact, %d records lost, %d times full", deaths, torn, lost, full)
	}
}
