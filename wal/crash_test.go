package wal

import (
	"math/rand"
	"slices"
	"testing"

	"wayfarer/addr"
	"wayfarer/api"
	"wayfarer/disk"
	"wayfarer/rec"
)

// told is what a disk's journal has to say: all that was told OK, and, behind a Crash, perhaps one of those that failed since.
type told struct {
	well   []rec.Rec
	failed []rec.Rec
}

func (w *told) note(r rec.Rec, e api.Errno) {
	switch e {
	case api.OK:
		w.well, w.failed = append(w.well, r), nil
	case api.ErrIO:
		w.failed = append(w.failed, r)
	}
}

// agrees says so if a Log says neither of that, and notes which it says.
func (w *told) agrees(t *testing.T, what string, l *Log) {
	t.Helper()
	got := l.State().Records()
	for _, r := range append([]rec.Rec{{}}, w.failed...) {
		list := slices.Clone(w.well)
		if r.Kind != 0 {
			list = append(list, r)
		}
		if slices.Equal(got, of(list...)) {
			w.well, w.failed = list, nil
			return
		}
	}
	t.Fatalf("%s: the State's Records are %+v; told well: %+v, failed: %+v", what, got, w.well, w.failed)
}

// atRisk is how many sectors may not be safe at once: those that a compaction writes ahead of a Sync, and some besides.
const atRisk = 4

// picks is all lists of picks for these: each as it was, as written, or spoilt.
func picks(n int) [][]disk.Pick {
	lists := [][]disk.Pick{nil}
	for range n {
		var longer [][]disk.Pick
		for _, list := range lists {
			for _, p := range []disk.Pick{{}, {How: 1}, {How: 2, At: 40, Turn: 0x81}} {
				longer = append(longer, append(slices.Clone(list), p))
			}
		}
		lists = longer
	}
	return lists
}

// doing is a disk of 8 sectors on which records are appended till two calls fail, and what was told of them: the first one fails behind so many others, the second one behind so many since.
func doing(list []rec.Rec, first, second int) (*disk.Disk, *told) {
	d, w := disk.New(8), &told{}
	l, _ := Open(d, 7)
	d.Fail(first)
	broke := 0
	for _, r := range list {
		e := l.Append(r)
		w.note(r, e)
		if e == api.ErrIO {
			if broke++; broke == 2 {
				return d, w
			}
			d.Fail(second)
		}
	}
	return d, w
}

// Two calls fail, the disk crashes at once, in all ways: the journal says what it told.
func TestWhateverCrashPicks(t *testing.T) {
	// They compact twice: there are 3 records a region.
	list := []rec.Rec{
		ownOf(ten, true), leaseOf(1), leaseOf(2), leaseOf(3), ownOf(ten, false), ownOf(ten, true), leaseOf(4), leaseOf(5), ownOf(ten, false),
	}
	all := picks(atRisk)
	for first := range 32 {
		for second := range 8 {
			for _, p := range all {
				d, w := doing(list, first, second)
				d.Crash(p)
				l := opened(t, d)
				w.agrees(t, "crashed", l)
				// What was told well from now on holds, too.
				r := leaseOf(50)
				w.note(r, l.Append(r))
				d.Crash(nil)
				w.agrees(t, "crashed again", opened(t, d))
			}
		}
	}
}

// A Crash while Open writes its Begin leaves no journal, or an empty one.
func TestACrashWhileOpened(t *testing.T) {
	for after := range 2 {
		for _, p := range picks(1) {
			d := laidOut(t, 8, map[int]rec.Rec{0: beginOf(4, 9), 1: in(leaseOf(3), 4, 1), 5: in(leaseOf(3), 5, 1)})
			d.Fail(after)
			Open(d, 7)
			d.Crash(p)
			l := opened(t, d)
			if l.Gen() != 6 {
				t.Errorf("Fail(%d), %v: Gen %d, want 6", after, p, l.Gen())
			}
			is(t, "opened again", l, 6, 0)
			appends(t, l, leaseOf(1))
			d.Crash(nil)
			is(t, "appended, crashed", opened(t, d), 6, 1, leaseOf(1))
		}
	}
}

// A record stays whose region's Begin is lost: the next Open doesn't take it for its own.
func TestARecordOfAnOpenThatWasLost(t *testing.T) {
	d := disk.New(8)
	d.Fail(1)
	Open(d, 7)
	l := opened(t, d)
	d.Fail(1)
	tells(t, "Append", l.Append(leaseOf(9)), api.ErrIO)
	// The Begin is lost, the record is not.
	d.Crash([]disk.Pick{{}, {How: 1}})
	is(t, "opened again", opened(t, d), 2, 0)
}

func someRecord(random *rand.Rand) rec.Rec {
	switch random.Intn(5) {
	case 0:
		p := addr.Prefix{Addr: uint32(random.Intn(3)) << 24, Len: 8}
		return ownOf(p, random.Intn(2) == 1)
	case 1, 2:
		return leaseOf(uint32(random.Intn(50)))
	}
	return floorOf(uint32(1+random.Intn(3)), uint32(random.Intn(5)), uint16(random.Intn(50)))
}

func somePicks(random *rand.Rand) []disk.Pick {
	list := make([]disk.Pick, random.Intn(12))
	for i := range list {
		list[i] = disk.Pick{How: random.Intn(3), At: random.Intn(384), Turn: 1 | random.Uint32()}
	}
	return list
}

// reopened is the journal behind a Crash, whatever fails at first.
func reopened(t *testing.T, random *rand.Rand, d *disk.Disk, w *told) *Log {
	t.Helper()
	d.Crash(somePicks(random))
	for {
		d.Fail(random.Intn(6) - 3)
		l, e := Open(d, 7)
		if e == api.ErrIO {
			d.Crash(somePicks(random))
			continue
		}
		if e != api.OK {
			t.Fatalf("Open: %q", e.Word())
		}
		w.agrees(t, "reopened", l)
		return l
	}
}

// full tells whether a journal of that state has no room for one record more, once its region is full.
func full(l *Log, half int) bool {
	return l.Len()+1 >= half && len(l.State().Records())+2 > half
}

func TestWhateverHappens(t *testing.T) {
	random := rand.New(rand.NewSource(11))
	compacted, fulls := 0, 0
	for range 400 {
		d, w := disk.New(4+random.Intn(20)), &told{}
		l := reopened(t, random, d, w)
		for range 80 {
			switch random.Intn(12) {
			case 0:
				l = reopened(t, random, d, w)
			case 1, 2:
				d.Fail(random.Intn(10) - 1)
			default:
				r, gen, isFull := someRecord(random), l.Gen(), full(l, d.Size()/2)
				e := l.Append(r)
				w.note(r, e)
				if (e == api.ErrFull) != isFull || e != api.OK && e != api.ErrIO && e != api.ErrFull {
					t.Fatalf("Append of %+v: %q, full %v", r, e.Word(), isFull)
				}
				if isFull {
					fulls++
				}
				if l.Gen() != gen {
					compacted++
				}
			}
			if got := l.State().Records(); !slices.Equal(got, of(w.well...)) {
				t.Fatalf("the State's Records are %+v, want those of %+v", got, w.well)
			}
		}
	}
	if compacted < 100 || fulls < 100 {
		t.Errorf("too little came about: %d compactions, %d times full", compacted, fulls)
	}
}
