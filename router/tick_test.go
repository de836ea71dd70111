package router

import (
	"bytes"
	"fmt"
	"testing"

	"wayfarer/addr"
	"wayfarer/api"
	"wayfarer/disk"
	"wayfarer/rec"
	"wayfarer/tlv"
)

func TestTheExample(t *testing.T) {
	r, _ := New(disk.New(64), 7)
	tells(t, "Own", r.Own(ten, true), api.OK)
	tells(t, "Link", r.Link(3, 1), api.OK)
	out := r.Tick()
	want := []byte{0x57, 1, 0, 16, 2, 4, 0, 0, 0, 7, 3, 8, 8, 0, 0, 0, 1, 0, 0, 10}
	if len(out) != 1 || out[0].To != 3 || !bytes.Equal(out[0].Data, want) {
		t.Errorf("Tick tells %v", out)
	}
}

func TestNow(t *testing.T) {
	d := disk.New(64)
	r := started(t, d)
	d.Fail(0)
	for i := range int64(30) {
		if r.Now() != i {
			t.Errorf("Now is %d, want %d", r.Now(), i)
		}
		ticks(t, "nothing to tell", r, nil)
	}
}

func TestWaysExpire(t *testing.T) {
	r := started(t, disk.New(64))
	hear(t, r, 1, of(ten, 9, 4, 1))
	hear(t, r, 2, of(ten, 9, 5, 1))
	ticks(t, "at 1", r, both, of(ten, 9, 4, 4))
	hear(t, r, 1, of(high, 9, 1, 1))
	hear(t, r, 2, of(ten, 9, 5, 2))
	ticks(t, "at 2", r, both, of(ten, 9, 4, 4), of(high, 9, 1, 4))
	is(t, "at 2", r, via(ten, 1), via(high, 1))
	// that of 1 to ten was told at 0
	ticks(t, "at 3", r, both, of(ten, 9, 5, 12), of(high, 9, 1, 4))
	is(t, "at 3", r, via(ten, 2), via(high, 1))
	hear(t, r, 1, of(high, 9, 1, 4))
	ticks(t, "at 4", r, both, lost(ten), lost(high))
	is(t, "at 4", r, hole(ten), hole(high))
	ticks(t, "at 5", r, both, lost(ten), lost(high))
}

func TestTheNumberAdvances(t *testing.T) {
	d := disk.New(64)
	r := started(t, d)
	for range 5 {
		ticks(t, "nothing is its own", r, both)
	}
	if r.Seq() != 0 || r.State().Lease() != 0 {
		t.Errorf("Seq is %d, Lease %d", r.Seq(), r.State().Lease())
	}
	tells(t, "on", r.Own(ten, true), api.OK)
	tells(t, "on", r.Own(last, true), api.OK)
	for i := range uint32(12 * 20) {
		seq := i/12 + 1
		what := fmt.Sprintf("tick %d", i)
		ticks(t, what, r, both, of(ten, 7, seq, 0), of(last, 7, seq, 0))
		if r.Seq() != seq || r.State().Lease() != (seq+7)/8*8 {
			t.Errorf("%s: Seq is %d, Lease %d", what, r.Seq(), r.State().Lease())
		}
	}
}

func TestTheNumberWhileNothingIsItsOwn(t *testing.T) {
	r := started(t, disk.New(64))
	tells(t, "on", r.Own(ten, true), api.OK)
	ticks(t, "the first", r, both, of(ten, 7, 1, 0))
	tells(t, "off", r.Own(ten, false), api.OK)
	for range 11 {
		ticks(t, "off", r, both, lost(ten))
	}
	tells(t, "on", r.Own(tenOne, true), api.OK)
	if r.Seq() != 1 {
		t.Errorf("Seq is %d", r.Seq())
	}
	ticks(t, "twelve ticks behind the first", r, both, lost(ten), of(tenOne, 7, 2, 0))
	tells(t, "off", r.Own(tenOne, false), api.OK)
	for range 10 {
		ticks(t, "off", r, both, lost(ten), lost(tenOne))
	}
	tells(t, "on", r.Own(ten, true), api.OK)
	ticks(t, "eleven ticks behind", r, both, of(ten, 7, 2, 0), lost(tenOne))
	tells(t, "off", r.Own(ten, false), api.OK)
	for range 40 {
		ticks(t, "off", r, both, lost(ten), lost(tenOne))
	}
	tells(t, "on", r.Own(ten, true), api.OK)
	for range 12 {
		ticks(t, "one more, and no more than that", r, both, of(ten, 7, 3, 0), lost(tenOne))
	}
	ticks(t, "the next one", r, both, of(ten, 7, 4, 0), lost(tenOne))
}

func TestTheNumberBehindACrash(t *testing.T) {
	d := disk.New(64)
	for i := range uint32(4) {
		r := started(t, d)
		tells(t, "on", r.Own(ten, true), []api.Errno{api.OK, api.ErrState}[min(i, 1)])
		ticks(t, "the first", r, both, of(ten, 7, 8*i+1, 0))
		if lease := r.State().Lease(); lease != 8*i+8 {
			t.Errorf("Lease is %d", lease)
		}
		d.Crash(nil)
	}
}

func TestTheNumberWhileTheDiskFails(t *testing.T) {
	for after := range 2 {
		d := disk.New(64)
		r := started(t, d)
		tells(t, "on", r.Own(ten, true), api.OK)
		for range 3 {
			d.Fail(after)
			ticks(t, "no lease", r, both)
			if r.Seq() != 0 || r.State().Lease() != 0 {
				t.Errorf("Seq is %d, Lease %d", r.Seq(), r.State().Lease())
			}
		}
		for i := range uint32(96) {
			ticks(t, "a lease", r, both, of(ten, 7, 1+i/12, 0))
		}
		for range 3 {
			d.Fail(after)
			ticks(t, "no further lease: the same number", r, both, of(ten, 7, 8, 0))
		}
		for range 12 {
			ticks(t, "a further lease", r, both, of(ten, 7, 9, 0))
		}
		d.Fail(0)
		ticks(t, "within the lease nothing is appended", r, both, of(ten, 7, 10, 0))
	}
}

func TestTheGreatestNumber(t *testing.T) {
	const most = api.MaxSeq
	for _, c := range []struct {
		lease       uint32
		first, next uint32 // 0: none
	}{
		{most - 20, most - 19, most - 12},
		{most - 9, most - 8, most - 1},
		{most - 8, most - 7, most},
		{most - 7, most - 6, most},
		{most - 2, most - 1, most},
		{most - 1, most, most},
		{most, 0, most},
	} {
		d := disk.New(64)
		appends(t, d, leaseOf(c.lease), ownOf(ten, true))
		r := started(t, d)
		what := fmt.Sprintf("Lease %d", c.lease)
		if c.first == 0 {
			ticks(t, what, r, both)
		} else {
			ticks(t, what, r, both, of(ten, 7, c.first, 0))
		}
		if r.Seq() != c.first || r.State().Lease() != c.next {
			t.Errorf("%s: Seq is %d, Lease %d", what, r.Seq(), r.State().Lease())
		}
	}
}

func TestTheNumberAfterTheGreatest(t *testing.T) {
	d := disk.New(64)
	appends(t, d, leaseOf(api.MaxSeq-2), ownOf(ten, true))
	r := started(t, d)
	for i := range uint32(60) {
		ticks(t, fmt.Sprintf("tick %d", i), r, both, of(ten, 7, min(api.MaxSeq-1+i/12, api.MaxSeq), 0))
	}
}

func TestFloorsAreNotedAhead(t *testing.T) {
	r := started(t, disk.New(64))
	hear(t, r, 1, of(ten, 9, 4, 5), of(high, 8, 1, 0))
	floors(t, "ahead of the tick", r)
	ticks(t, "the first", r, both, of(ten, 9, 4, 8), of(high, 8, 1, 3))
	floors(t, "behind it", r, of(ten, 9, 4, 8), of(high, 8, 1, 3))
	hear(t, r, 1, of(ten, 9, 4, 7))
	ticks(t, "farther", r, both, of(ten, 9, 4, 10), of(high, 8, 1, 3))
	floors(t, "farther", r, of(ten, 9, 4, 8), of(high, 8, 1, 3))
	hear(t, r, 1, of(ten, 9, 4, 4), of(high, 8, 2, 100))
	ticks(t, "nearer, and newer", r, both, of(ten, 9, 4, 7), of(high, 8, 2, 103))
	floors(t, "nearer, and newer", r, of(ten, 9, 4, 7), of(high, 8, 2, 103))
	hear(t, r, 1, of(ten, 11, 1, 50))
	ticks(t, "of another one", r, both, of(ten, 11, 1, 53), of(high, 8, 2, 103))
	floors(t, "of another one", r, of(ten, 9, 4, 7), of(ten, 11, 1, 53), of(high, 8, 2, 103))
}

func TestWhatIsCoveredIsNotNoted(t *testing.T) {
	d := disk.New(64)
	r := started(t, d)
	hear(t, r, 1, of(ten, 9, 4, 5))
	ticks(t, "the first", r, both, of(ten, 9, 4, 8))
	d.Fail(0)
	ticks(t, "the same again", r, both, of(ten, 9, 4, 8))
	hear(t, r, 1, of(ten, 9, 4, 7))
	ticks(t, "farther", r, both, of(ten, 9, 4, 10))
	hear(t, r, 1, lost(ten))
	ticks(t, "lost", r, both, lost(ten))
	if d.Sync() != api.ErrIO {
		t.Error("something was written")
	}
}

func TestFloorsWhileTheDiskFails(t *testing.T) {
	for after := range 2 {
		d := disk.New(64)
		appends(t, d, floorOf(of(high, 9, 1, 90)))
		r := started(t, d)
		hear(t, r, 1, of(ten, 9, 4, 5), of(tenOne, 9, 4, 5), of(high, 9, 1, 7))
		tells(t, "on", r.Own(last, true), api.OK)
		d.Fail(2 + 2 + after) // the Lease, and the Floor of ten
		ticks(t, "the second floor isn't noted", r, both, of(ten, 9, 4, 8), of(high, 9, 1, 10), of(last, 7, 1, 0))
		is(t, "it is taken nevertheless", r, via(ten, 1), via(tenOne, 1), via(high, 1), here(last))
		d.Fail(after)
		ticks(t, "again", r, both, of(ten, 9, 4, 8), of(high, 9, 1, 10), of(last, 7, 1, 0))
		floors(t, "again", r, of(ten, 9, 4, 8), of(high, 9, 1, 10))
		hear(t, r, 1, of(tenOne, 9, 4, 5), of(high, 9, 1, 6), of(ten, 9, 4, 5))
		d.Fail(2 + after)
		ticks(t, "of what it answers for, too, nothing", r, both, of(ten, 9, 4, 8), of(tenOne, 9, 4, 8), of(last, 7, 1, 0))
		ticks(t, "no disk fails", r, both, of(ten, 9, 4, 8), of(tenOne, 9, 4, 8), of(high, 9, 1, 9), of(last, 7, 1, 0))
	}
}

func TestFloorsInAFullJournal(t *testing.T) {
	r := started(t, disk.New(8))
	hear(t, r, 1, of(all, 9, 4, 5), of(ten, 9, 4, 5), of(tenLong, 9, 4, 5), of(tenOne, 9, 4, 5))
	ticks(t, "three have room", r, both, of(all, 9, 4, 8), of(ten, 9, 4, 8), of(tenLong, 9, 4, 8))
	hear(t, r, 1, lost(ten), of(tenOne, 9, 5, 5))
	ticks(t, "still", r, both, of(all, 9, 4, 8), lost(ten), of(tenLong, 9, 4, 8))
	is(t, "still", r, via(all, 1), hole(ten), via(tenLong, 1), via(tenOne, 1))
}

func TestManyDatagrams(t *testing.T) {
	r, _ := New(disk.New(512), 7)
	for _, n := range []int{5, 0, 3} {
		tells(t, "Link", r.Link(n, 1), api.OK)
	}
	var told, want []tlv.Update
	for i := range uint32(200) {
		p := addr.Prefix{Addr: i << 8, Len: 24}
		told = append(told, of(p, 100+i, 4, 5))
		want = append(want, of(p, 100+i, 4, 6))
	}
	hear(t, r, 3, told...)
	if n := len(tlv.Encode(want)); n < 3 {
		t.Fatalf("%d datagrams", n)
	}
	ticks(t, "all to 0, then to 3, then to 5", r, []int{0, 3, 5}, want...)
}

func TestDatagramsAreApart(t *testing.T) {
	r := started(t, disk.New(64))
	tells(t, "on", r.Own(ten, true), api.OK)
	a := r.Tick()
	b := r.Tick()
	want := tlv.Encode([]tlv.Update{of(ten, 7, 1, 0)})[0]
	clear(a[0].Data)
	if len(a) != 2 || len(b) != 2 || !bytes.Equal(a[1].Data, want) || !bytes.Equal(b[0].Data, want) {
		t.Errorf("two datagrams share their bytes: %v, %v", a, b)
	}
}

func TestRoutersAreApart(t *testing.T) {
	x, y := started(t, disk.New(64)), started(t, disk.New(64))
	tells(t, "on", x.Own(ten, true), api.OK)
	hear(t, x, 1, of(high, 9, 1, 1))
	x.Tick()
	x.Link(1, 0)
	is(t, "the other", y)
	if y.Now() != 0 || y.Seq() != 0 || len(y.State().Records()) != 0 {
		t.Error("the other")
	}
	hear(t, y, 1, of(high, 9, 1, 1))
	is(t, "the other", y, via(high, 1))
}

// What a router told is no better than its floors, and its numbers are above those ahead of a crash, wherever that comes.
func TestCrashesAnywhere(t *testing.T) {
	for after := range 12 {
		for how := range 3 {
			d := disk.New(16)
			r := started(t, d)
			tells(t, "on", r.Own(ten, true), api.OK)
			ticks(t, "the first", r, both, of(ten, 7, 1, 0))
			d.Fail(after)
			var told []tlv.Update
			for i := range uint32(10) {
				hear(t, r, 1, of(high, 9, i+1, 5), of(last, 8, 1, uint16(90-i)))
				for _, o := range r.Tick() {
					list, _ := tlv.Decode(o.Data)
					told = append(told, list...)
				}
				if i == uint32(after)/2 {
					break
				}
			}
			d.Crash([]disk.Pick{{How: how, At: 100, Turn: 9}, {How: how, At: 100, Turn: 9}})
			n := started(t, d)
			for _, u := range told {
				k := rec.Rec{Kind: rec.Floor, ID: u.ID, Prefix: u.Prefix, Dist: u.Dist}
				if u.ID == 7 && n.State().Lease() < u.Dist.Seq || u.ID > 7 && !covers(n, k) {
					t.Errorf("Fail(%d), How %d: %v was told, State is %v", after, how, u, n.State().Records())
				}
			}
			if n.Tick(); n.Seq() <= r.Seq() {
				t.Errorf("Fail(%d), How %d: Seq is %d behind %d", after, how, n.Seq(), r.Seq())
			}
		}
	}
}

// covers tells whether some floor of a router is at least as good as a record's.
func covers(r *Router, want rec.Rec) bool {
	for k, d := range r.State().Floors() {
		if k.Prefix == want.Prefix && k.ID == want.ID {
			return !better(want.Dist, d)
		}
	}
	return false
}
