package wal

import (
	"fmt"
	"maps"
	"math"
	"testing"

	"wayfarer/api"
	"wayfarer/disk"
	"wayfarer/rec"
)

// step is a call of a disk: a Write of a record into a sector, or, if that is below 0, a Sync.
type step struct {
	sector int
	r      rec.Rec
}

var sync = step{sector: -1}

// filled is a disk of 13 sectors whose first region is full: the State has 3 records then.
func filled(t *testing.T) (*disk.Disk, *Log, map[int]rec.Rec) {
	t.Helper()
	d := disk.New(13)
	l := opened(t, d)
	records := map[int]rec.Rec{0: beginOf(1, 7)}
	for i, r := range filling() {
		appends(t, l, r)
		records[i+1] = in(r, 1, uint32(i+1))
	}
	holds(t, "filled", d, records)
	return d, l, records
}

func filling() []rec.Rec {
	return []rec.Rec{ownOf(ten, true), leaseOf(1), leaseOf(2), ownOf(ten, false), floorOf(3, 2, 9)}
}

// compaction is what an Append does to such a disk, call by call.
func compaction(r rec.Rec) []step {
	return []step{
		{7, in(ownOf(ten, false), 2, 1)}, {8, in(leaseOf(2), 2, 2)}, {9, in(floorOf(3, 2, 9), 2, 3)}, sync,
		{6, beginOf(2, 7)}, sync,
		{10, in(r, 2, 4)}, sync,
	}
}

// done is what a disk holds behind some calls, and what of it is safe.
func done(records map[int]rec.Rec, steps []step) (now, safe map[int]rec.Rec) {
	now, safe = maps.Clone(records), maps.Clone(records)
	for _, s := range steps {
		if s == sync {
			safe = maps.Clone(now)
		} else {
			now[s.sector] = s.r
		}
	}
	return now, safe
}

// behind is what a Log is to be behind so many calls of a compaction.
func behind(t *testing.T, what string, l *Log, calls int) {
	t.Helper()
	switch {
	case calls < 6:
		is(t, what, l, 1, 5, filling()...)
	case calls < 8:
		is(t, what, l, 2, 3, filling()...)
	default:
		is(t, what, l, 2, 4, append(filling(), floorOf(3, 2, 8))...)
	}
}

func TestCompactionCallByCall(t *testing.T) {
	r := floorOf(3, 2, 8)
	steps := compaction(r)
	for after := range len(steps) + 1 {
		what := fmt.Sprintf("Fail(%d)", after)
		d, l, records := filled(t)
		want := api.ErrIO
		if after == len(steps) {
			want = api.OK
		}
		d.Fail(after)
		tells(t, what+", Append", l.Append(r), want)
		now, safe := done(records, steps[:after])
		holds(t, what+", Append", d, now)
		behind(t, what, l, after)
		d.Crash(nil)
		holds(t, what+", Append, Crash", d, safe)
		behind(t, what+", opened again", opened(t, d), after)
	}
}

// once does an Append on a disk that fails behind so many calls, and tells how many calls it did, that one among them.
func once(d *disk.Disk, l *Log, r rec.Rec, after int) (int, api.Errno) {
	d.Fail(after)
	e := l.Append(r)
	if e == api.ErrIO {
		return after + 1, e
	}
	return after - left(d), e
}

// goesOn is from which call on a compaction goes on that failed at that one.
func goesOn(failed int) int {
	switch {
	case failed < 4:
		return 0
	case failed < 6:
		return 4
	}
	return 6
}

func TestCompactionGoesOnWhereItIsSafe(t *testing.T) {
	r := floorOf(3, 2, 8)
	steps := compaction(r)
	for first := range steps {
		from := goesOn(first)
		for after := range len(steps) - from + 1 {
			what := fmt.Sprintf("failed at %d, then behind %d", first, after)
			d, l, records := filled(t)
			once(d, l, r, first)
			d.Fail(after)
			want := api.ErrIO
			if after == len(steps)-from {
				want = api.OK
			}
			tells(t, what, l.Append(r), want)
			now, safe := done(records, append(steps[:first:first], steps[from:from+after]...))
			holds(t, what, d, now)
			behind(t, what, l, from+after)
			d.Crash(nil)
			holds(t, what+", Crash", d, safe)
			behind(t, what+", opened again", opened(t, d), from+after)
		}
	}
}

func TestCompactionThatFailsOftenGoesOn(t *testing.T) {
	r := floorOf(3, 2, 8)
	d, l, _ := filled(t)
	for _, c := range []struct{ after, calls int }{
		{2, 3}, {3, 4}, {0, 1}, // laid by none of these
		{4, 5},                         // laid by this one
		{0, 1}, {1, 2}, {0, 1}, {1, 2}, // at the Begin and its Sync
		{2, 3}, // at the record
		{0, 1}, {1, 2},
	} {
		if n, e := once(d, l, r, c.after); n != c.calls || e != api.ErrIO {
			t.Errorf("Fail(%d): %d calls, %q, want %d", c.after, n, e.Word(), c.calls)
		}
	}
	behind(t, "then", l, 7)
	if n, e := once(d, l, r, 50); n != 2 || e != api.OK {
		t.Errorf("then %d calls, %q, want 2", n, e.Word())
	}
	behind(t, "at last", l, 8)
}

// What was laid once counts for that compaction alone: the next one writes anew, and so does another Log.
func TestTheNextCompactionWritesAnew(t *testing.T) {
	r := floorOf(3, 2, 8)
	d, l, _ := filled(t)
	once(d, l, r, 4)
	appends(t, l, r, leaseOf(3))
	d.Fail(50)
	// The second region is full: 3 records, Sync, Begin, Sync, the record, Sync.
	tells(t, "Append", l.Append(leaseOf(4)), api.OK)
	if n := 50 - left(d); n != 8 {
		t.Errorf("the next compaction did %d calls, want 8", n)
	}
	is(t, "the next one", l, 3, 4, append(filling(), r, leaseOf(4))...)
	is(t, "opened again", opened(t, d), 3, 4, append(filling(), r, leaseOf(4))...)
}

func TestAnotherLogsCompactionWritesAnew(t *testing.T) {
	r := floorOf(3, 2, 8)
	for _, after := range []int{4, 5} {
		d, l, records := filled(t)
		once(d, l, r, after)
		d.Crash(nil)
		l = opened(t, d)
		if n, e := once(d, l, r, 50); n != 8 || e != api.OK {
			t.Errorf("failed at %d, crashed: %d calls, %q, want 8", after, n, e.Word())
		}
		now, _ := done(records, compaction(r))
		holds(t, "behind that", d, now)
	}
}

// A compaction that went well stays, whatever becomes of the record.
func TestACompactedRegionStays(t *testing.T) {
	for after := 6; after < 8; after++ {
		d, l, _ := filled(t)
		once(d, l, leaseOf(9), after)
		behind(t, "compacted", l, 6)
		d.Fail(50)
		tells(t, "Append of another record", l.Append(floorOf(3, 2, 8)), api.OK)
		if n := 50 - left(d); n != 2 {
			t.Errorf("the next Append did %d calls, want 2", n)
		}
		behind(t, "appended", l, 8)
		d.Crash(nil)
		behind(t, "crashed", opened(t, d), 8)
	}
}

func TestAppendThatFails(t *testing.T) {
	for after := range 2 {
		d := disk.New(8)
		l := opened(t, d)
		appends(t, l, leaseOf(1))
		records := map[int]rec.Rec{0: beginOf(1, 7), 1: in(leaseOf(1), 1, 1)}
		d.Fail(after)
		tells(t, "Append", l.Append(leaseOf(2)), api.ErrIO)
		is(t, "failed", l, 1, 1, leaseOf(1))
		now := maps.Clone(records)
		if after == 1 {
			now[2] = in(leaseOf(2), 1, 2)
		}
		holds(t, "failed", d, now)
		// The next one comes into the same sector.
		appends(t, l, ownOf(ten, true))
		is(t, "appended", l, 1, 2, leaseOf(1), ownOf(ten, true))
		records[2] = in(ownOf(ten, true), 1, 2)
		holds(t, "appended", d, records)
		d.Crash(nil)
		holds(t, "crashed", d, records)
	}
}

// The Append of a record that fills the region fails: that is no reason to compact it.
func TestTheLastRecordThatFails(t *testing.T) {
	d := disk.New(8)
	l := opened(t, d)
	appends(t, l, leaseOf(1), leaseOf(2))
	for after := range 2 {
		d.Fail(after)
		tells(t, "Append", l.Append(leaseOf(3)), api.ErrIO)
		is(t, "failed", l, 1, 2, leaseOf(2))
	}
	appends(t, l, leaseOf(4))
	is(t, "appended", l, 1, 3, leaseOf(4))
}

func TestErrFull(t *testing.T) {
	for _, size := range []int{3, 4, 5, 8, 256} {
		for _, odd := range []int{0, 1} {
			d := disk.New(min(2*size+odd, api.MaxDisk))
			l := opened(t, d)
			var list []rec.Rec
			for i := range size - 1 {
				list = append(list, floorOf(uint32(i+1), 5, 5))
			}
			appends(t, l, list...)
			was := image(d)
			d.Fail(2)
			for _, r := range []rec.Rec{floorOf(900, 1, 1), floorOf(1, 6, 1), floorOf(1, 5, 5), leaseOf(0), ownOf(ten, true)} {
				tells(t, fmt.Sprintf("of %d: Append of %+v", size, r), l.Append(r), api.ErrFull)
			}
			tells(t, "Append of a Begin", l.Append(beginOf(1, 7)), api.ErrArg)
			is(t, "full", l, 1, size-1, list...)
			if !same(was, image(d)) {
				t.Errorf("of %d: what is told to be full was written", size)
			}
			if n := left(d); n != 2 {
				t.Errorf("of %d: ErrFull behind a Write or a Sync: %d left", size, n)
			}
			is(t, "full, opened again", opened(t, d), 1, size-1, list...)
		}
	}
}

// One record fewer than would be too many: the compaction leaves room for just the one.
func TestAlmostFull(t *testing.T) {
	for _, size := range []int{3, 4, 5, 8, 256} {
		d := disk.New(2 * size)
		l := opened(t, d)
		var list []rec.Rec
		for i := range size - 2 {
			list = append(list, floorOf(uint32(i+1), 5, 5))
		}
		list = append(list, floorOf(1, 5, 4))
		appends(t, l, list...)
		for i := range 5 {
			r := floorOf(1, uint32(6+i), 9)
			appends(t, l, r)
			list = append(list, r)
			is(t, "compacted", l, uint32(2+i), size-1, list...)
			is(t, "opened again", opened(t, d), uint32(2+i), size-1, list...)
		}
		appends(t, l, floorOf(900, 1, 1))
		list = append(list, floorOf(900, 1, 1))
		is(t, "full", l, 7, size-1, list...)
		tells(t, "Append", l.Append(floorOf(1, 99, 1)), api.ErrFull)
	}
}

func TestRegionsOfTwoSectors(t *testing.T) {
	for _, n := range []int{4, 5} {
		d := disk.New(n)
		l := opened(t, d)
		// A Lease of 0 turns nothing: there is room for it for ever.
		for i := range 5 {
			appends(t, l, leaseOf(0))
			is(t, "a Lease of 0", l, uint32(i+1), 1)
		}
		holds(t, "five of these", d, map[int]rec.Rec{0: beginOf(5, 7), 1: in(leaseOf(0), 5, 1), 2: beginOf(4, 7), 3: in(leaseOf(0), 4, 1)})
		appends(t, l, leaseOf(1))
		is(t, "a Lease of 1", l, 6, 1, leaseOf(1))
		tells(t, "Append", l.Append(leaseOf(2)), api.ErrFull)
		is(t, "full", opened(t, d), 6, 1, leaseOf(1))
	}
}

func TestCompactionToAndFro(t *testing.T) {
	d := disk.New(9)
	spare := in(ownOf(other, true), 0, 4)
	d.Write(8, spare.Sector())
	l := opened(t, d)
	var list []rec.Rec
	gen, n := uint32(1), 0
	for i := range 40 {
		r := []rec.Rec{leaseOf(uint32(i)), ownOf(ten, i%4 == 1)}[i%2]
		if n == 3 {
			// Of both kinds there is one by then.
			gen, n = gen+1, 2
		}
		n++
		list = append(list, r)
		appends(t, l, r)
		is(t, "to and fro", l, gen, n, list...)
		is(t, "opened again", opened(t, d), gen, n, list...)
		if i%7 == 6 {
			d.Crash(nil)
			l = opened(t, d)
		}
	}
	if b, _ := d.Read(8); string(b) != string(spare.Sector()) {
		t.Errorf("the sector of neither region was written")
	}
}

// The Begin of the other region need not be the router's, and its Gen makes no difference.
func TestCompactionOverAnythingElse(t *testing.T) {
	records := map[int]rec.Rec{
		0: beginOf(90, 9), 1: in(leaseOf(7), 90, 1), 2: in(leaseOf(8), 90, 2), 3: in(leaseOf(9), 90, 3),
		4: beginOf(3, 7), 5: in(leaseOf(1), 3, 1), 6: in(leaseOf(2), 3, 2), 7: in(leaseOf(3), 3, 3),
	}
	d := laidOut(t, 8, records)
	l := opened(t, d)
	appends(t, l, ownOf(ten, true))
	is(t, "compacted", l, 4, 2, leaseOf(3), ownOf(ten, true))
	records[0], records[1], records[2] = beginOf(4, 7), in(leaseOf(3), 4, 1), in(ownOf(ten, true), 4, 2)
	holds(t, "compacted", d, records)
	is(t, "opened again", opened(t, d), 4, 2, leaseOf(3), ownOf(ten, true))
}

func TestCompactionWithoutRecords(t *testing.T) {
	d := laidOut(t, 6, map[int]rec.Rec{3: beginOf(8, 7)})
	l := opened(t, d)
	appends(t, l, leaseOf(0), leaseOf(0), leaseOf(5))
	is(t, "compacted", l, 9, 1, leaseOf(5))
	holds(t, "compacted", d, map[int]rec.Rec{
		0: beginOf(9, 7), 1: in(leaseOf(5), 9, 1), 3: beginOf(8, 7), 4: in(leaseOf(0), 8, 1), 5: in(leaseOf(0), 8, 2),
	})
}

func TestCompactionBehindTheHighestGen(t *testing.T) {
	d := laidOut(t, 6, map[int]rec.Rec{0: beginOf(math.MaxUint32, 7)})
	l := opened(t, d)
	appends(t, l, leaseOf(1), leaseOf(1), leaseOf(2))
	// Of 32 bits, one more than that is 0.
	is(t, "compacted", l, 0, 2, leaseOf(2))
}
