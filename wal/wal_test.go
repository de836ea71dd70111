package wal

import (
	"bytes"
	"fmt"
	"math"
	"slices"
	"testing"

	"wayfarer/addr"
	"wayfarer/api"
	"wayfarer/disk"
	"wayfarer/dist"
	"wayfarer/rec"
	"wayfarer/state"
)

var (
	ten   = addr.Prefix{Addr: 0x0a000000, Len: 8}
	other = addr.Prefix{Addr: 0x0b000000, Len: 8}
)

func beginOf(gen, id uint32) rec.Rec { return rec.Rec{Kind: rec.Begin, Gen: gen, ID: id} }

func ownOf(p addr.Prefix, on bool) rec.Rec { return rec.Rec{Kind: rec.Own, Prefix: p, On: on} }

func leaseOf(seq uint32) rec.Rec { return rec.Rec{Kind: rec.Lease, Dist: dist.Dist{Seq: seq}} }

func floorOf(id, seq uint32, metric uint16) rec.Rec {
	return rec.Rec{Kind: rec.Floor, ID: id, Prefix: ten, Dist: dist.Dist{Seq: seq, Metric: metric}}
}

// in is a record as it stands in a region.
func in(r rec.Rec, gen, lsn uint32) rec.Rec {
	r.Gen, r.LSN = gen, lsn
	return r
}

// of is what a state's records are behind some records.
func of(list ...rec.Rec) []rec.Rec {
	s := state.New(1)
	for _, r := range list {
		s.Apply(r)
	}
	return s.Records()
}

// image is what a disk's sectors hold.
func image(d *disk.Disk) [][]byte {
	var list [][]byte
	for i := range d.Size() {
		b, _ := d.Read(i)
		list = append(list, b)
	}
	return list
}

func same(a, b [][]byte) bool { return slices.EqualFunc(a, b, bytes.Equal) }

// sectors is a disk's image as it is to be: the records that stand in its sectors, and noughts where there is none.
func sectors(n int, records map[int]rec.Rec) [][]byte {
	var list [][]byte
	for i := range n {
		b := make([]byte, api.Sector)
		if r, ok := records[i]; ok {
			b = r.Sector()
		}
		list = append(list, b)
	}
	return list
}

// laidOut is a disk that holds such records, all of it safe.
func laidOut(t *testing.T, n int, records map[int]rec.Rec) *disk.Disk {
	t.Helper()
	d := disk.New(n)
	for i, r := range records {
		if e := d.Write(i, r.Sector()); e != api.OK {
			t.Fatalf("Write(%d) of %+v: %q", i, r, e.Word())
		}
	}
	d.Sync()
	return d
}

// holds says so if a disk doesn't hold just these records.
func holds(t *testing.T, what string, d *disk.Disk, records map[int]rec.Rec) {
	t.Helper()
	want := sectors(d.Size(), records)
	for i, b := range image(d) {
		if !bytes.Equal(b, want[i]) {
			got, _ := rec.Of(b)
			t.Errorf("%s: sector %d holds %+v (%x), want %+v", what, i, got, b, records[i])
		}
	}
}

// opened is the journal of the router 7 on a disk.
func opened(t *testing.T, d *disk.Disk) *Log {
	t.Helper()
	l, e := Open(d, 7)
	if l == nil || e != api.OK {
		t.Fatalf("Open: %v, %q", l, e.Word())
	}
	return l
}

// appends appends records, all of which have to go well.
func appends(t *testing.T, l *Log, list ...rec.Rec) {
	t.Helper()
	for _, r := range list {
		tells(t, fmt.Sprintf("Append of %+v", r), l.Append(r), api.OK)
	}
}

// tells says so if an error isn't the one that is wanted.
func tells(t *testing.T, what string, e, want api.Errno) {
	t.Helper()
	if e != want {
		t.Errorf("%s: %q, want %q", what, e.Word(), want.Word())
	}
}

// is says so if a Log isn't of that Gen and Len, or doesn't say just what these records do.
func is(t *testing.T, what string, l *Log, gen uint32, n int, list ...rec.Rec) {
	t.Helper()
	if l.Gen() != gen || l.Len() != n {
		t.Errorf("%s: Gen %d, Len %d, want %d, %d", what, l.Gen(), l.Len(), gen, n)
	}
	if l.State().ID() != 7 {
		t.Errorf("%s: the State is that of %d", what, l.State().ID())
	}
	if got := l.State().Records(); !slices.Equal(got, of(list...)) {
		t.Errorf("%s: the State's Records are %+v, want %+v", what, got, of(list...))
	}
}

// left is how many Writes and Syncs go well ahead of the one that is to fail; it does them. -1: none fails.
func left(d *disk.Disk) int {
	for n := range 1000 {
		if d.Sync() != api.OK {
			return n
		}
	}
	return -1
}

func TestOpenOfWrongArguments(t *testing.T) {
	for _, c := range []struct {
		size int
		id   uint32
	}{
		{-1, 7}, {0, 7}, {1, 7}, {2, 7}, {3, 7}, {1, 0}, {3, 0}, {4, 0}, {8, 0}, {512, 0},
	} {
		d := disk.New(c.size)
		d.Fail(1)
		if l, e := Open(d, c.id); l != nil || e != api.ErrArg {
			t.Errorf("Open of %d sectors and %d: %v, %q", c.size, c.id, l, e.Word())
		}
		holds(t, "behind ErrArg", d, nil)
		if n := left(d); n != 1 {
			t.Errorf("Open of %d sectors and %d wrote or synced: %d left", c.size, c.id, n)
		}
	}
	// A journal that is there, and a disk that fails, turn nothing of that.
	d := laidOut(t, 8, map[int]rec.Rec{0: beginOf(1, 7)})
	d.Fail(0)
	if l, e := Open(d, 0); l != nil || e != api.ErrArg {
		t.Errorf("Open of the router 0: %v, %q", l, e.Word())
	}
}

func TestOpenOfAnEmptyDisk(t *testing.T) {
	for _, n := range []int{4, 5, 6, 7, 8, 9, 511, 512} {
		for _, id := range []uint32{1, 7, 1 << 31, math.MaxUint32} {
			d := disk.New(n)
			l, e := Open(d, id)
			if e != api.OK || l.Gen() != 1 || l.Len() != 0 || l.State().ID() != id || len(l.State().Records()) != 0 {
				t.Fatalf("Open of %d sectors and %d: %v, %q", n, id, l, e.Word())
			}
			holds(t, "opened", d, map[int]rec.Rec{0: beginOf(1, id)})
			d.Crash(nil)
			holds(t, "opened, crashed", d, map[int]rec.Rec{0: beginOf(1, id)})
		}
	}
}

func TestOpenThatFails(t *testing.T) {
	was := map[int]rec.Rec{0: beginOf(4, 9), 1: in(leaseOf(3), 4, 1), 6: in(leaseOf(3), 5, 1)}
	now := map[int]rec.Rec{0: beginOf(6, 7), 1: was[1], 6: was[6]}
	for after, held := range []map[int]rec.Rec{was, now} {
		d := laidOut(t, 8, was)
		d.Fail(after)
		if l, e := Open(d, 7); l != nil || e != api.ErrIO {
			t.Errorf("Fail(%d), Open: %v, %q", after, l, e.Word())
		}
		holds(t, fmt.Sprintf("Fail(%d), Open", after), d, held)
		d.Crash(nil)
		holds(t, fmt.Sprintf("Fail(%d), Open, Crash", after), d, was)
		is(t, "opened again", opened(t, d), 6, 0)
	}
	d := laidOut(t, 8, was)
	d.Fail(2)
	is(t, "Fail(2), Open", opened(t, d), 6, 0)
	if n := left(d); n != 0 {
		t.Errorf("Open left %d calls that go well, want 0", n)
	}
}

// Behind a Begin that isn't safe, Open without a Crash has that one's journal.
func TestOpenBehindOneThatFailed(t *testing.T) {
	d := disk.New(8)
	d.Fail(1)
	Open(d, 7)
	l := opened(t, d)
	is(t, "again", l, 1, 0)
	appends(t, l, leaseOf(2))
	d.Crash(nil)
	is(t, "crashed", opened(t, d), 1, 1, leaseOf(2))
}

func TestOpenGoesAboveAllGens(t *testing.T) {
	for _, c := range []struct {
		what string
		at   int
		r    rec.Rec
		want uint32
	}{
		{"a record of Gen 0", 3, in(leaseOf(1), 0, 3), 1},
		{"a record of Gen 1", 3, in(leaseOf(1), 1, 3), 2},
		{"a Begin of another router", 0, beginOf(4, 9), 5},
		{"one in the other region", 4, beginOf(4, 9), 5},
		{"a record in the first sector", 0, in(leaseOf(1), 6, 0), 7},
		{"an Own in the first sector of the other region", 4, in(ownOf(ten, true), 6, 0), 7},
		{"a Begin of the router with an LSN", 0, in(beginOf(0, 7), 4, 1), 5},
		{"a Begin of the router in another sector", 1, beginOf(4, 7), 5},
		{"one in the second region's second sector", 5, beginOf(4, 7), 5},
		{"one in the sector of neither region", 8, beginOf(4, 7), 5},
		{"a record with the greatest LSN", 2, in(floorOf(1, 1, 1), 9, math.MaxUint32), 10},
		{"a record in the last sector of the regions", 7, in(floorOf(1, 1, 1), 11, 3), 12},
		{"a record in the sector of neither region", 8, in(ownOf(ten, false), 20, 4), 21},
		{"a high Gen", 5, in(leaseOf(1), 1<<31, 1), 1<<31 + 1},
		{"the highest Gen but one", 5, in(leaseOf(1), math.MaxUint32-1, 1), math.MaxUint32},
		{"the highest Gen", 5, in(leaseOf(1), math.MaxUint32, 1), 0},
	} {
		d := laidOut(t, 9, map[int]rec.Rec{c.at: c.r})
		is(t, c.what, opened(t, d), c.want, 0)
		want := map[int]rec.Rec{c.at: c.r}
		want[0] = beginOf(c.want, 7)
		holds(t, c.what, d, want)
		d.Crash(nil)
		holds(t, c.what+", crashed", d, want)
	}
	d := laidOut(t, 9, map[int]rec.Rec{0: beginOf(3, 9), 1: in(leaseOf(1), 3, 1), 5: in(leaseOf(1), 8, 1), 7: in(leaseOf(1), 2, 3)})
	is(t, "several", opened(t, d), 9, 0)
}

func TestOpenCountsNoSpoiltSectors(t *testing.T) {
	d := laidOut(t, 8, map[int]rec.Rec{5: in(leaseOf(1), 3, 1)})
	b := in(leaseOf(1), 50, 1).Sector()
	b[47] ^= 1
	d.Write(6, b)
	d.Write(2, bytes.Repeat([]byte{0xff}, api.Sector))
	is(t, "with spoilt sectors", opened(t, d), 4, 0)
}

func TestOpenTakesTheGreaterGen(t *testing.T) {
	const half = 4
	a, b := ownOf(ten, true), leaseOf(5)
	for _, c := range []struct {
		what   string
		p, q   rec.Rec // in the first sectors
		second bool
	}{
		{"first alone", beginOf(3, 7), rec.Rec{}, false},
		{"second alone", rec.Rec{}, beginOf(3, 7), true},
		{"first of Gen 0 alone", beginOf(0, 7), rec.Rec{}, false},
		{"second of Gen 0 alone", rec.Rec{}, beginOf(0, 7), true},
		{"second greater", beginOf(1, 7), beginOf(2, 7), true},
		{"first greater", beginOf(2, 7), beginOf(1, 7), false},
		{"second much greater", beginOf(1, 7), beginOf(math.MaxUint32, 7), true},
		{"first much greater", beginOf(1<<31, 7), beginOf(1<<31-1, 7), false},
		{"first greater than 0", beginOf(1, 7), beginOf(0, 7), false},
		{"second of another router", beginOf(1, 7), beginOf(2, 8), false},
		{"first of another router", beginOf(3, 8), beginOf(2, 7), true},
		{"second with an LSN", beginOf(1, 7), in(beginOf(0, 7), 2, half), false},
		{"first with an LSN", in(beginOf(0, 7), 9, 1), beginOf(2, 7), true},
		{"second no Begin", beginOf(1, 7), in(ownOf(other, true), 2, 0), false},
		{"first no Begin", in(floorOf(7, 1, 1), 9, 0), beginOf(2, 7), true},
	} {
		for _, n := range []int{2 * half, 2*half + 1} {
			records := map[int]rec.Rec{1: in(a, c.p.Gen, 1), half + 1: in(b, c.q.Gen, 1)}
			if c.p != (rec.Rec{}) {
				records[0] = c.p
			}
			if c.q != (rec.Rec{}) {
				records[half] = c.q
			}
			l := opened(t, laidOut(t, n, records))
			if c.second {
				is(t, c.what, l, c.q.Gen, 1, b)
			} else {
				is(t, c.what, l, c.p.Gen, 1, a)
			}
		}
	}
}

func TestOpenOfAJournalTurnsNothing(t *testing.T) {
	records := map[int]rec.Rec{0: beginOf(3, 7), 1: in(leaseOf(4), 3, 1), 2: in(leaseOf(9), 2, 2), 4: beginOf(2, 7)}
	d := laidOut(t, 8, records)
	d.Fail(0)
	is(t, "on a disk that fails", opened(t, d), 3, 1, leaseOf(4))
	holds(t, "opened", d, records)
	if n := left(d); n != 0 {
		t.Errorf("Open wrote or synced: %d left", n)
	}
	is(t, "again", opened(t, d), 3, 1, leaseOf(4))
}

func TestOpenOfASpoiltBegin(t *testing.T) {
	d := laidOut(t, 8, map[int]rec.Rec{0: beginOf(3, 7), 1: in(leaseOf(4), 3, 1), 4: beginOf(2, 7), 5: in(leaseOf(2), 2, 1)})
	b := beginOf(3, 7).Sector()
	b[20] ^= 0x40
	d.Write(0, b)
	is(t, "the other one", opened(t, d), 2, 1, leaseOf(2))
	b = beginOf(2, 7).Sector()
	b[0] ^= 0x80
	d.Write(4, b)
	is(t, "none", opened(t, d), 4, 0)
}

// What a region says: its records up to one that doesn't belong there.
func TestWhatARegionSays(t *testing.T) {
	const gen, size = 6, 6
	right := []rec.Rec{in(leaseOf(1), gen, 1), in(leaseOf(2), gen, 2), in(leaseOf(3), gen, 3), in(leaseOf(4), gen, 4), in(leaseOf(5), gen, 5)}
	for _, c := range []struct {
		what string
		at   int
		r    rec.Rec
	}{
		{"noughts", 3, rec.Rec{}},
		{"noughts at once", 1, rec.Rec{}},
		{"noughts at the end", 5, rec.Rec{}},
		{"a Begin", 3, in(beginOf(0, 7), gen, 3)},
		{"a Begin at once", 1, in(beginOf(0, 7), gen, 1)},
		{"a Begin of another router", 4, in(beginOf(0, 9), gen, 4)},
		{"a Begin with LSN 0", 2, beginOf(gen, 7)},
		{"a lesser Gen", 3, in(leaseOf(9), gen-1, 3)},
		{"a greater Gen", 3, in(leaseOf(9), gen+1, 3)},
		{"another Gen at once", 1, in(leaseOf(9), gen-2, 1)},
		{"another Gen at the end", 5, in(leaseOf(9), gen-2, 5)},
		{"LSN 0", 2, in(leaseOf(9), gen, 0)},
		{"a lesser LSN", 3, in(leaseOf(9), gen, 2)},
		{"a greater LSN", 3, in(leaseOf(9), gen, 4)},
		{"an LSN of as many sectors more", 2, in(leaseOf(9), gen, 2+size)},
		{"an LSN that is so of 8 bits", 2, in(leaseOf(9), gen, 2+1<<8)},
		{"an LSN that is so of 16 bits", 2, in(leaseOf(9), gen, 2+1<<16)},
	} {
		for first := range 2 {
			records := map[int]rec.Rec{first * size: beginOf(gen, 7)}
			for i, r := range right {
				records[first*size+1+i] = r
			}
			delete(records, first*size+c.at)
			if c.r != (rec.Rec{}) {
				records[first*size+c.at] = c.r
			}
			l := opened(t, laidOut(t, 2*size, records))
			is(t, c.what, l, gen, c.at-1, right[:c.at-1]...)
			// The next one is written over what ended the journal.
			appends(t, l, ownOf(ten, true))
			if l.Len() != c.at {
				t.Errorf("%s: behind Append Len = %d, want %d", c.what, l.Len(), c.at)
			}
		}
	}
}

func TestARegionEndsWhereTheOtherOneBegins(t *testing.T) {
	records := map[int]rec.Rec{0: beginOf(2, 7)}
	for i := 1; i < 9; i++ {
		records[i] = in(leaseOf(uint32(i)), 2, uint32(i))
	}
	is(t, "the first one", opened(t, laidOut(t, 9, records)), 2, 3, leaseOf(3))
	records = map[int]rec.Rec{4: beginOf(2, 7)}
	for i := 1; i < 5; i++ {
		records[4+i] = in(leaseOf(uint32(i)), 2, uint32(i))
	}
	is(t, "the second one", opened(t, laidOut(t, 9, records)), 2, 3, leaseOf(3))
}

func TestRecordsSayInTheirOrder(t *testing.T) {
	list := []rec.Rec{ownOf(ten, true), floorOf(3, 2, 9), leaseOf(8), ownOf(ten, false), floorOf(3, 2, 7), ownOf(other, true), leaseOf(7), floorOf(4, 1, 1)}
	d := disk.New(20)
	l := opened(t, d)
	for i, r := range list {
		appends(t, l, r)
		is(t, "appended", l, 1, i+1, list[:i+1]...)
		is(t, "opened again", opened(t, d), 1, i+1, list[:i+1]...)
	}
	d.Crash(nil)
	is(t, "crashed", opened(t, d), 1, len(list), list...)
}

func TestAppendOfWrongRecords(t *testing.T) {
	for _, n := range []int{4, 8} {
		d := disk.New(n)
		l := opened(t, d)
		appends(t, l, ownOf(ten, true)) // of 4 sectors, that fills it: ErrArg comes ahead of ErrFull
		was := image(d)
		d.Fail(3)
		for _, r := range []rec.Rec{
			{}, {Kind: 5}, {Kind: -1}, {Kind: 257}, {Kind: math.MaxInt}, {Gen: 1, LSN: 2},
			{Kind: rec.Begin}, {Kind: rec.Begin, ID: 7}, {Kind: rec.Begin, ID: 9}, beginOf(2, 7), in(beginOf(0, 7), 1, 2),
			{Kind: rec.Own, ID: 1}, {Kind: rec.Own, Prefix: addr.Prefix{Addr: 1}}, {Kind: rec.Own, Prefix: addr.Prefix{Len: 33}},
			{Kind: rec.Own, Dist: dist.Dist{Seq: 1}}, {Kind: rec.Lease, On: true}, {Kind: rec.Lease, ID: 7}, {Kind: rec.Lease, Prefix: ten},
			leaseOf(1<<30 + 1), {Kind: rec.Lease, Dist: dist.Dist{Seq: 1, Metric: 1}},
			floorOf(0, 1, 1), floorOf(1, 1<<30+1, 1), floorOf(1, 1, api.Inf), {Kind: rec.Floor, ID: 1, On: true},
		} {
			tells(t, fmt.Sprintf("Append of %+v", r), l.Append(r), api.ErrArg)
		}
		is(t, "behind that", l, 1, 1, ownOf(ten, true))
		if !same(was, image(d)) {
			t.Errorf("of %d: a record that is none was written", n)
		}
		if k := left(d); k != 3 {
			t.Errorf("of %d: Append wrote or synced: %d left", n, k)
		}
	}
}

func TestAppendOfRecordsAtTheirBounds(t *testing.T) {
	list := []rec.Rec{
		{Kind: rec.Own}, ownOf(addr.Prefix{Addr: math.MaxUint32, Len: 32}, true), leaseOf(0), leaseOf(1 << 30),
		{Kind: rec.Floor, ID: 1}, floorOf(math.MaxUint32, 1<<30, api.Inf-1),
	}
	d := disk.New(64)
	l := opened(t, d)
	appends(t, l, list...)
	is(t, "appended", l, 1, len(list), list...)
	is(t, "opened again", opened(t, d), 1, len(list), list...)
}

func TestAppendWhateverGenAndLSNAre(t *testing.T) {
	d := disk.New(8)
	l := opened(t, d)
	appends(t, l, in(leaseOf(3), 9, 9), in(ownOf(ten, true), math.MaxUint32, math.MaxUint32), in(floorOf(1, 1, 1), 0, 1))
	holds(t, "appended", d, map[int]rec.Rec{
		0: beginOf(1, 7), 1: in(leaseOf(3), 1, 1), 2: in(ownOf(ten, true), 1, 2), 3: in(floorOf(1, 1, 1), 1, 3),
	})
	is(t, "appended", l, 1, 3, leaseOf(3), ownOf(ten, true), floorOf(1, 1, 1))
	tells(t, "Append of a Begin with an LSN", l.Append(in(beginOf(0, 7), 1, 4)), api.ErrArg)
}

func TestAppendWritesWhatTurnsNothing(t *testing.T) {
	d := disk.New(12)
	l := opened(t, d)
	appends(t, l, leaseOf(5), leaseOf(5), leaseOf(4), leaseOf(0))
	is(t, "appended", l, 1, 4, leaseOf(5))
	holds(t, "appended", d, map[int]rec.Rec{
		0: beginOf(1, 7), 1: in(leaseOf(5), 1, 1), 2: in(leaseOf(5), 1, 2), 3: in(leaseOf(4), 1, 3), 4: in(leaseOf(0), 1, 4),
	})
}

func TestAppendIsSafe(t *testing.T) {
	d := disk.New(8)
	l := opened(t, d)
	want := map[int]rec.Rec{0: beginOf(1, 7)}
	for i := range 3 {
		r := leaseOf(uint32(i + 1))
		appends(t, l, r)
		want[i+1] = in(r, 1, uint32(i+1))
		holds(t, "appended", d, want)
		d.Crash(nil)
		holds(t, "crashed", d, want)
		l = opened(t, d)
		is(t, "crashed", l, 1, i+1, r)
	}
}

func TestAppendTurnsTheStateThatWasAnswered(t *testing.T) {
	l := opened(t, disk.New(8))
	s := l.State()
	appends(t, l, leaseOf(1), leaseOf(2), leaseOf(3), leaseOf(4))
	if s.Lease() != 4 || l.State().Lease() != 4 {
		t.Errorf("the State's Lease is %d, %d", s.Lease(), l.State().Lease())
	}
}

func TestLogsAreApart(t *testing.T) {
	a, b := opened(t, disk.New(8)), opened(t, disk.New(8))
	appends(t, a, leaseOf(1), ownOf(ten, true), leaseOf(2), leaseOf(3))
	is(t, "the other", b, 1, 0)
}

func TestAZeroLog(t *testing.T) {
	var l Log
	if l.Gen() != 0 || l.Len() != 0 || l.State().ID() != 0 || len(l.State().Records()) != 0 {
		t.Errorf("a zero Log: %d, %d, %v", l.Gen(), l.Len(), l.State())
	}
	tells(t, "Append of a Begin", l.Append(beginOf(1, 7)), api.ErrArg)
	tells(t, "Append", l.Append(leaseOf(1)), api.ErrFull)
}
