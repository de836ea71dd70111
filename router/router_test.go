package router

import (
	"fmt"
	"math"
	"slices"
	"testing"

	"wayfarer/addr"
	"wayfarer/api"
	"wayfarer/disk"
	"wayfarer/dist"
	"wayfarer/fib"
	"wayfarer/rec"
	"wayfarer/tlv"
	"wayfarer/wal"
)

// The prefixes of these tests, by rising order.
var (
	all     = addr.Prefix{}
	ten     = addr.Prefix{Addr: 0x0a000000, Len: 8}
	tenLong = addr.Prefix{Addr: 0x0a000000, Len: 16}
	tenOne  = addr.Prefix{Addr: 0x0a010000, Len: 16}
	high    = addr.Prefix{Addr: 1 << 31, Len: 1}
	last    = addr.Prefix{Addr: math.MaxUint32, Len: 32}
)

// wrong is what are no prefixes.
var wrong = []addr.Prefix{{Addr: 1}, {Addr: 1, Len: 31}, {Len: -1}, {Len: 33}, {Addr: math.MaxUint32, Len: math.MaxInt}, {Len: math.MinInt}}

// started is a router 7 on a disk, with links to 1 and 2, which cost 3 and 10.
func started(t *testing.T, d *disk.Disk) *Router {
	t.Helper()
	r, e := New(d, 7)
	if e != api.OK || r == nil {
		t.Fatalf("New tells %d", e)
	}
	tells(t, "Link", r.Link(1, 3), api.OK)
	tells(t, "Link", r.Link(2, 10), api.OK)
	return r
}

func tells(t *testing.T, what string, e, want api.Errno) {
	t.Helper()
	if e != want {
		t.Errorf("%s tells %q, want %q", what, e.Word(), want.Word())
	}
}

// far says so if it isn't so far to a prefix; below 0: there is no way.
func far(t *testing.T, what string, r *Router, p addr.Prefix, want int) {
	t.Helper()
	n, ok := r.Distance(p)
	if want < 0 && (ok || n != 0) || want >= 0 && (!ok || n != want) {
		t.Errorf("%s: Distance of %v is %d, %v, want %d", what, p, n, ok, want)
	}
}

// is says so if a router's Fib isn't just that.
func is(t *testing.T, what string, r *Router, want ...fib.Entry) {
	t.Helper()
	if f := r.Fib(); !slices.Equal(f, want) {
		t.Errorf("%s: Fib is %v, want %v", what, f, want)
	}
}

func here(p addr.Prefix) fib.Entry { return fib.Entry{Prefix: p, How: fib.Here} }

func via(p addr.Prefix, next int) fib.Entry { return fib.Entry{Prefix: p, How: fib.Via, Next: next} }

func hole(p addr.Prefix) fib.Entry { return fib.Entry{Prefix: p, How: fib.Blackhole} }

// of is what is told of a prefix.
func of(p addr.Prefix, id, seq uint32, metric uint16) tlv.Update {
	return tlv.Update{Prefix: p, ID: id, Dist: dist.Dist{Seq: seq, Metric: metric}}
}

func lost(p addr.Prefix) tlv.Update { return of(p, 0, 0, api.Inf) }

// hear lets a router hear of a neighbour what is told.
func hear(t *testing.T, r *Router, from int, list ...tlv.Update) {
	t.Helper()
	for _, u := range list {
		if !u.Right() {
			t.Fatalf("a test tells %v", u)
		}
	}
	for _, b := range tlv.Encode(list) {
		r.Receive(from, b)
	}
}

// ticks says so if a Tick doesn't tell just that to each of these neighbours, in order.
func ticks(t *testing.T, what string, r *Router, to []int, want ...tlv.Update) {
	t.Helper()
	var expected []Out
	for _, n := range to {
		for _, b := range tlv.Encode(want) {
			expected = append(expected, Out{n, b})
		}
	}
	if got := r.Tick(); !sameOut(got, expected) {
		t.Errorf("%s: Tick tells %s, want %v", what, spelt(got), want)
	}
}

func spelt(list []Out) string {
	s := ""
	for _, o := range list {
		told, ok := tlv.Decode(o.Data)
		s += fmt.Sprintf("[to %d: %v %v]", o.To, told, ok)
	}
	return s
}

// both is the neighbours to whom started links.
var both = []int{1, 2}

// floors says so if a router's floors aren't just those.
func floors(t *testing.T, what string, r *Router, want ...tlv.Update) {
	t.Helper()
	var got []tlv.Update
	for k, d := range r.State().Floors() {
		got = append(got, tlv.Update{Prefix: k.Prefix, ID: k.ID, Dist: d})
	}
	if !slices.Equal(got, want) {
		t.Errorf("%s: floors are %v, want %v", what, got, want)
	}
}

// appends writes records into the journal of a router 7 ahead of its start.
func appends(t *testing.T, d *disk.Disk, list ...rec.Rec) {
	t.Helper()
	l, e := wal.Open(d, 7)
	tells(t, "Open", e, api.OK)
	for _, r := range list {
		tells(t, "Append", l.Append(r), api.OK)
	}
}

func leaseOf(seq uint32) rec.Rec { return rec.Rec{Kind: rec.Lease, Dist: dist.Dist{Seq: seq}} }

func ownOf(p addr.Prefix, on bool) rec.Rec { return rec.Rec{Kind: rec.Own, Prefix: p, On: on} }

func floorOf(u tlv.Update) rec.Rec {
	return rec.Rec{Kind: rec.Floor, ID: u.ID, Prefix: u.Prefix, Dist: u.Dist}
}

func TestNew(t *testing.T) {
	for _, c := range []struct {
		size, fail int
		id         uint32
		want       api.Errno
	}{
		{4, -1, 1, api.OK},
		{512, -1, math.MaxUint32, api.OK},
		{3, -1, 1, api.ErrArg},
		{1, 0, 1, api.ErrArg},
		{64, -1, 0, api.ErrArg},
		{64, 0, 1, api.ErrIO},
		{64, 1, 1, api.ErrIO},
		{64, 2, 1, api.OK},
	} {
		d := disk.New(c.size)
		d.Fail(c.fail)
		r, e := New(d, c.id)
		what := fmt.Sprintf("New(%d, %d)", c.size, c.id)
		tells(t, what, e, c.want)
		if (r == nil) != (c.want != api.OK) {
			t.Errorf("%s: %v", what, r)
		}
		if r == nil {
			continue
		}
		if r.State().ID() != c.id || r.Now() != 0 || r.Seq() != 0 || len(r.State().Records()) != 0 {
			t.Errorf("%s: %d, %d, %d", what, r.State().ID(), r.Now(), r.Seq())
		}
		is(t, what, r)
		far(t, what, r, ten, -1)
		ticks(t, what, r, nil)
		if r.Now() != 1 || r.Seq() != 0 {
			t.Errorf("%s, Tick: %d, %d", what, r.Now(), r.Seq())
		}
	}
}

func TestNewOverAJournal(t *testing.T) {
	d := disk.New(64)
	list := []rec.Rec{ownOf(ten, true), ownOf(tenOne, false), leaseOf(20), floorOf(of(high, 9, 4, 6))}
	appends(t, d, list...)
	r := started(t, d)
	if got := r.State().Records(); !slices.Equal(got, list) || r.Seq() != 0 || r.Now() != 0 {
		t.Errorf("State is %v", got)
	}
	is(t, "New", r, here(ten), hole(tenOne), hole(high))
	far(t, "its own", r, ten, 0)
	far(t, "no more its own", r, tenOne, -1)
	far(t, "another one's", r, high, -1)
	ticks(t, "the first", r, both, of(ten, 7, 21, 0), lost(tenOne), lost(high))
	if r.State().Lease() != 28 {
		t.Errorf("Lease is %d", r.State().Lease())
	}
}

func TestNewForgetsWaysAndLinks(t *testing.T) {
	d := disk.New(64)
	r := started(t, d)
	hear(t, r, 1, of(ten, 9, 1, 1))
	r.Tick()
	d.Crash(nil)
	n, _ := New(d, 7)
	is(t, "behind a crash", n, hole(ten))
	hear(t, n, 1, of(ten, 9, 2, 1))
	is(t, "without a link", n, hole(ten))
	ticks(t, "without a link", n, nil)
	tells(t, "Link", n.Link(1, 3), api.OK)
	is(t, "with a link", n, hole(ten))
	hear(t, n, 1, of(ten, 9, 1, 4))
	is(t, "what isn't better than it told", n, hole(ten))
	hear(t, n, 1, of(ten, 9, 1, 3))
	is(t, "what is", n, via(ten, 1))
}

func TestLink(t *testing.T) {
	r := started(t, disk.New(64))
	hear(t, r, 1, of(ten, 9, 1, 1), of(high, 9, 1, 7))
	hear(t, r, 2, of(ten, 9, 1, 2))
	for _, c := range [][2]int{
		{-1, 1}, {8, 1}, {9, 0}, {math.MinInt, 1}, {math.MaxInt, 0}, {257, 0}, {1 << 32, 0}, {1<<32 + 1, 0},
		{1, -1}, {1, 1001}, {1, math.MinInt}, {1, math.MaxInt}, {1, 1 << 32}, {8, -1},
	} {
		tells(t, fmt.Sprintf("Link%v", c), r.Link(c[0], c[1]), api.ErrArg)
	}
	is(t, "behind errors", r, via(ten, 1), via(high, 1))
	far(t, "behind errors", r, ten, 4)
	for _, cost := range []int{1, 1000, 10, 12, 11} {
		tells(t, "Link", r.Link(1, cost), api.OK)
		far(t, "another cost", r, high, 7+cost)
		far(t, "another cost", r, ten, min(1+cost, 12))
	}
	is(t, "two as near", r, via(ten, 1), via(high, 1))
	tells(t, "Link", r.Link(1, 12), api.OK)
	is(t, "the other one is nearer", r, via(ten, 2), via(high, 1))
	tells(t, "no link", r.Link(2, 0), api.OK)
	is(t, "no link to 2", r, via(ten, 1), via(high, 1))
	tells(t, "a link again", r.Link(2, 1), api.OK)
	far(t, "what was forgotten", r, ten, 13)
	tells(t, "no link", r.Link(1, 0), api.OK)
	tells(t, "no link, again", r.Link(1, 0), api.OK)
	is(t, "no link to 1", r)
	ticks(t, "no link to 1", r, []int{2})
}

func TestLinksToAll(t *testing.T) {
	r, _ := New(disk.New(64), 7)
	for n := range 8 {
		tells(t, "Link", r.Link(n, 8-n), api.OK)
		hear(t, r, n, of(ten, 9, 1, 5))
		is(t, "the nearest", r, via(ten, n))
		far(t, "the nearest", r, ten, 13-n)
	}
	ticks(t, "to all", r, []int{0, 1, 2, 3, 4, 5, 6, 7}, of(ten, 9, 1, 6))
	for n := range 8 {
		tells(t, "no link", r.Link(7-n, 0), api.OK)
	}
	ticks(t, "to nobody", r, nil)
	is(t, "to nobody", r, hole(ten))
}

func TestOwn(t *testing.T) {
	r := started(t, disk.New(64))
	for _, p := range wrong {
		tells(t, "Own of none", r.Own(p, true), api.ErrArg)
		tells(t, "Own of none", r.Own(p, false), api.ErrArg)
	}
	tells(t, "off, of none", r.Own(ten, false), api.ErrNone)
	if n := len(r.State().Records()); n != 0 {
		t.Errorf("errors noted %d", n)
	}
	for range 2 {
		tells(t, "on", r.Own(ten, true), api.OK)
		tells(t, "on again", r.Own(ten, true), api.ErrState)
		is(t, "on", r, here(ten))
		far(t, "on", r, ten, 0)
		tells(t, "another off", r.Own(tenLong, false), api.ErrNone)
		tells(t, "off", r.Own(ten, false), api.OK)
		tells(t, "off again", r.Own(ten, false), api.ErrNone)
		is(t, "off", r, hole(ten))
		far(t, "off", r, ten, -1)
	}
	if got := r.State().Records(); !slices.Equal(got, []rec.Rec{ownOf(ten, false)}) {
		t.Errorf("State is %v", got)
	}
	tells(t, "all", r.Own(all, true), api.OK)
	tells(t, "last", r.Own(last, true), api.OK)
	is(t, "three", r, here(all), hole(ten), here(last))
}

func TestOwnOfManyPrefixes(t *testing.T) {
	r := started(t, disk.New(128))
	for i := range 16 {
		p := addr.Prefix{Addr: uint32(i) << 24, Len: 8}
		tells(t, "on", r.Own(p, true), api.OK)
		if i%2 == 0 {
			tells(t, "off", r.Own(p, false), api.OK)
		}
	}
	full := addr.Prefix{Addr: 16 << 24, Len: 8}
	tells(t, "one more", r.Own(full, true), api.ErrFull)
	tells(t, "one more, off", r.Own(full, false), api.ErrNone)
	tells(t, "one of them, on again", r.Own(all, true), api.ErrFull)
	tells(t, "one of them, on again", r.Own(addr.Prefix{Len: 8}, true), api.OK)
	tells(t, "one of them, again", r.Own(addr.Prefix{Len: 8}, true), api.ErrState)
	tells(t, "one of them, off", r.Own(addr.Prefix{Addr: 1 << 24, Len: 8}, false), api.OK)
	tells(t, "still full", r.Own(full, true), api.ErrFull)
}

func TestOwnOfMoreThanMayBe(t *testing.T) {
	d := disk.New(128)
	var list []rec.Rec
	for i := range 20 {
		list = append(list, ownOf(addr.Prefix{Addr: uint32(i) << 24, Len: 8}, false))
	}
	appends(t, d, list...)
	r := started(t, d)
	tells(t, "one more", r.Own(addr.Prefix{Addr: 20 << 24, Len: 8}, true), api.ErrFull)
	tells(t, "one of them", r.Own(addr.Prefix{Addr: 19 << 24, Len: 8}, true), api.OK)
}

func TestOwnWhileTheDiskFails(t *testing.T) {
	for after := range 3 {
		d := disk.New(64)
		r := started(t, d)
		tells(t, "on", r.Own(ten, true), api.OK)
		d.Fail(after)
		want := api.ErrIO
		if after == 2 {
			want = api.OK
		}
		tells(t, fmt.Sprintf("on, Fail(%d)", after), r.Own(tenOne, true), want)
		if want == api.OK {
			continue
		}
		is(t, "behind ErrIO", r, here(ten))
		tells(t, "on", r.Own(tenOne, true), api.OK)
		d.Fail(after)
		tells(t, "off", r.Own(ten, false), api.ErrIO)
		is(t, "behind ErrIO", r, here(ten), here(tenOne))
	}
}

func TestOwnInAFullJournal(t *testing.T) {
	r := started(t, disk.New(8))
	for i := range 3 {
		tells(t, "on", r.Own(addr.Prefix{Addr: uint32(i) << 24, Len: 8}, true), api.OK)
	}
	tells(t, "the fourth", r.Own(addr.Prefix{Addr: 3 << 24, Len: 8}, true), api.ErrFull)
	tells(t, "off", r.Own(addr.Prefix{Len: 8}, false), api.ErrFull)
	is(t, "full", r, here(addr.Prefix{Len: 8}), here(addr.Prefix{Addr: 1 << 24, Len: 8}), here(addr.Prefix{Addr: 2 << 24, Len: 8}))
	ticks(t, "no number", r, both)
	if r.Seq() != 0 || r.Now() != 1 {
		t.Errorf("Seq is %d, Now %d", r.Seq(), r.Now())
	}
}

func TestWays(t *testing.T) {
	r := started(t, disk.New(64))
	hear(t, r, 2, of(ten, 9, 4, 1))
	far(t, "of 2", r, ten, 11)
	is(t, "of 2", r, via(ten, 2))
	hear(t, r, 1, of(ten, 9, 1, 9))
	far(t, "farther, and older", r, ten, 11)
	hear(t, r, 1, of(ten, 9, 1, 8))
	is(t, "as near, and older: the least one's", r, via(ten, 1))
	hear(t, r, 1, of(ten, 8, 1, 2))
	far(t, "another one's own", r, ten, 5)
	hear(t, r, 1, of(ten, 9, 9, 60000))
	is(t, "farther, and newer", r, via(ten, 2))
	floors(t, "nothing is told yet", r)
	is(t, "no other prefix", r, via(ten, 2))
	for _, p := range []addr.Prefix{all, tenLong, tenOne, {Addr: 0x0a000000, Len: 9}, {Addr: 0x0a000000, Len: 7}} {
		far(t, "no other prefix", r, p, -1)
	}
	for _, p := range wrong {
		far(t, "no prefix", r, p, -1)
	}
}

func TestWaysThatAreTooFar(t *testing.T) {
	r := started(t, disk.New(64))
	hear(t, r, 1, of(ten, 9, 1, 65532), of(high, 9, 1, 65531), of(tenOne, 9, 1, 65534))
	far(t, "lost beyond the link", r, ten, -1)
	far(t, "just not lost", r, high, 65534)
	is(t, "one is lost", r, via(high, 1))
	ticks(t, "one is lost", r, both, of(high, 9, 1, 65534))
	floors(t, "one is lost", r, of(high, 9, 1, 65534))
	tells(t, "Link", r.Link(1, 2), api.OK)
	is(t, "over a shorter link", r, via(ten, 1), via(high, 1))
	tells(t, "Link", r.Link(1, 4), api.OK)
	is(t, "over a longer link", r, hole(high))
	ticks(t, "over a longer link", r, both, lost(high))
}

func TestWaysThatAreNotFeasible(t *testing.T) {
	d := disk.New(64)
	appends(t, d, floorOf(of(ten, 9, 4, 8)))
	r := started(t, d)
	for _, c := range []struct {
		u    tlv.Update
		want int
	}{
		{of(ten, 9, 4, 8), -1}, {of(ten, 9, 4, 9), -1}, {of(ten, 9, 3, 0), -1}, {of(ten, 9, 3, 7), -1},
		{of(ten, 9, 4, 7), 10}, {of(ten, 9, 4, 0), 3}, {of(ten, 9, 5, 0), 3}, {of(ten, 9, 5, 100), 103},
		{of(ten, 8, 1, 100), 103}, {of(ten, 10, 4, 8), 11},
	} {
		hear(t, r, 1, lost(ten))
		hear(t, r, 1, c.u)
		far(t, fmt.Sprint(c.u), r, ten, c.want)
	}
	hear(t, r, 1, of(tenLong, 9, 4, 8))
	far(t, "another prefix", r, tenLong, 11)
}

func TestAWayThatIsFeasibleNoMore(t *testing.T) {
	r := started(t, disk.New(64))
	hear(t, r, 1, of(ten, 9, 4, 20))
	hear(t, r, 2, of(ten, 9, 4, 5))
	ticks(t, "by 2", r, both, of(ten, 9, 4, 15))
	floors(t, "by 2", r, of(ten, 9, 4, 15))
	hear(t, r, 2, lost(ten))
	is(t, "the way of 1 may not be taken now", r, hole(ten))
	far(t, "the way of 1 may not be taken now", r, ten, -1)
	ticks(t, "the way of 1 may not be taken now", r, both, lost(ten))
	floors(t, "what is lost is no floor", r, of(ten, 9, 4, 15))
	hear(t, r, 2, of(ten, 8, 1, 30))
	ticks(t, "of another one", r, both, of(ten, 8, 1, 40))
	floors(t, "of both", r, of(ten, 8, 1, 40), of(ten, 9, 4, 15))
}

func TestReceive(t *testing.T) {
	d := disk.New(64)
	appends(t, d, floorOf(of(ten, 9, 4, 8)), ownOf(high, true), ownOf(last, false))
	for _, c := range []struct {
		what string
		list []tlv.Update
		want []fib.Entry
	}{
		{"nothing", nil, []fib.Entry{hole(ten), here(high), hole(last)}},
		{"a way", []tlv.Update{of(tenOne, 9, 1, 1)}, []fib.Entry{hole(ten), via(tenOne, 1), here(high), hole(last)}},
		{"of what is its own", []tlv.Update{of(high, 9, 1, 1)}, []fib.Entry{hole(ten), here(high), hole(last)}},
		{"of what was its own", []tlv.Update{of(last, 9, 1, 1)}, []fib.Entry{hole(ten), here(high), via(last, 1)}},
		{"by its own number", []tlv.Update{of(tenOne, 7, 1, 1), of(last, 7, 9, 0), of(all, 8, 1, 1)}, []fib.Entry{via(all, 1), hole(ten), here(high), hole(last)}},
		{"its own number again", []tlv.Update{of(tenOne, 9, 1, 1), of(tenOne, 7, 3, 0)}, []fib.Entry{hole(ten), via(tenOne, 1), here(high), hole(last)}},
		{"lost", []tlv.Update{of(tenOne, 9, 1, 1), lost(tenOne)}, []fib.Entry{hole(ten), here(high), hole(last)}},
		{"lost, another prefix", []tlv.Update{of(tenOne, 9, 1, 1), lost(tenLong), lost(high)}, []fib.Entry{hole(ten), via(tenOne, 1), here(high), hole(last)}},
		{"lost, and again", []tlv.Update{of(tenOne, 9, 1, 1), lost(tenOne), of(tenOne, 9, 1, 2)}, []fib.Entry{hole(ten), via(tenOne, 1), here(high), hole(last)}},
		{"not feasible", []tlv.Update{of(ten, 9, 4, 8)}, []fib.Entry{hole(ten), here(high), hole(last)}},
		{"not feasible, of another ID", []tlv.Update{of(ten, 8, 1, 1), of(ten, 9, 4, 8)}, []fib.Entry{hole(ten), here(high), hole(last)}},
		{"not feasible, of the same ID", []tlv.Update{of(ten, 9, 4, 1), of(ten, 9, 4, 8)}, []fib.Entry{via(ten, 1), here(high), hole(last)}},
		{"feasible, of another ID", []tlv.Update{of(ten, 9, 4, 1), of(ten, 8, 1, 100)}, []fib.Entry{via(ten, 1), here(high), hole(last)}},
		{"not feasible, of another ID and prefix", []tlv.Update{of(tenOne, 8, 1, 1), of(ten, 9, 4, 8)}, []fib.Entry{hole(ten), via(tenOne, 1), here(high), hole(last)}},
	} {
		r := started(t, d)
		hear(t, r, 1, c.list...)
		is(t, c.what, r, c.want...)
		if n := len(r.State().Records()); n != 3 {
			t.Errorf("%s: %d are noted", c.what, n)
		}
	}
}

func TestReceiveOfAnother(t *testing.T) {
	r := started(t, disk.New(64))
	hear(t, r, 1, of(ten, 8, 1, 1))
	r.Tick()
	hear(t, r, 2, of(ten, 8, 1, 9), lost(ten))
	is(t, "what 2 tells turns nothing of 1", r, via(ten, 1))
	far(t, "what 2 tells turns nothing of 1", r, ten, 4)
	hear(t, r, 2, of(ten, 8, 1, 3))
	hear(t, r, 1, lost(ten))
	is(t, "what 1 tells turns nothing of 2", r, via(ten, 2))
}

func TestReceiveInPlace(t *testing.T) {
	r := started(t, disk.New(64))
	for _, c := range []struct {
		u    tlv.Update
		want int
	}{{of(ten, 9, 4, 1), 4}, {of(ten, 9, 4, 5), 8}, {of(ten, 9, 1, 7), 10}, {of(ten, 8, 1, 9), 12}, {of(ten, 9, 9, 0), 3}} {
		hear(t, r, 1, c.u)
		far(t, fmt.Sprint(c.u), r, ten, c.want)
	}
}

func TestReceiveWithoutALink(t *testing.T) {
	r := started(t, disk.New(64))
	for _, from := range []int{0, 3, 7, 8, 9, -1, -2, math.MinInt, math.MaxInt, 257, 1<<32 + 1} {
		hear(t, r, from, of(ten, 9, 1, 1))
		is(t, fmt.Sprintf("of %d", from), r)
	}
	hear(t, r, 1, of(ten, 9, 1, 1))
	for _, from := range []int{0, 3, 8, -1, 257, 1<<32 + 1} {
		hear(t, r, from, lost(ten))
		is(t, fmt.Sprintf("lost, of %d", from), r, via(ten, 1))
	}
}

func TestReceiveOfNoDatagram(t *testing.T) {
	r := started(t, disk.New(64))
	hear(t, r, 1, of(ten, 9, 4, 9))
	whole := tlv.Encode([]tlv.Update{of(ten, 9, 5, 1), of(tenOne, 8, 1, 1), lost(ten)})[0]
	for n := range whole {
		r.Receive(1, whole[:n])
		is(t, fmt.Sprintf("its first %d bytes", n), r, via(ten, 1))
		far(t, fmt.Sprintf("its first %d bytes", n), r, ten, 12)
	}
	r.Receive(1, nil)
	r.Receive(1, append(slices.Clone(whole), 0))
	r.Receive(1, make([]byte, 5000))
	far(t, "more bytes", r, ten, 12)
	r.Receive(1, whole)
	is(t, "all of it", r, via(tenOne, 1))
}

func TestWhatBecomesItsOwn(t *testing.T) {
	r := started(t, disk.New(64))
	hear(t, r, 1, of(ten, 9, 4, 1), of(high, 9, 4, 1))
	tells(t, "on", r.Own(ten, true), api.OK)
	is(t, "on", r, here(ten), via(high, 1))
	far(t, "on", r, ten, 0)
	hear(t, r, 1, lost(ten), of(ten, 9, 5, 0))
	ticks(t, "on", r, both, of(ten, 7, 1, 0), of(high, 9, 4, 4))
	floors(t, "of its own there is no floor", r, of(high, 9, 4, 4))
	tells(t, "off", r.Own(ten, false), api.OK)
	is(t, "off: the way of 1 is there still", r, via(ten, 1), via(high, 1))
	far(t, "off", r, ten, 4)
	ticks(t, "off", r, both, of(ten, 9, 4, 4), of(high, 9, 4, 4))
	r.Tick()
	is(t, "expired", r, hole(ten), hole(high))
}

func TestZeroRouter(t *testing.T) {
	var r Router
	if r.Now() != 0 || r.Seq() != 0 || r.State().ID() != 0 {
		t.Error(r.Now(), r.Seq(), r.State().ID())
	}
	tells(t, "Link", r.Link(1, 3), api.OK)
	tells(t, "Own", r.Own(ten, false), api.ErrNone)
	tells(t, "Own", r.Own(ten, true), api.ErrFull)
	hear(t, &r, 1, of(ten, 9, 1, 1))
	is(t, "a way", &r, via(ten, 1))
	ticks(t, "nothing can be noted", &r, []int{1})
	far(t, "a way", &r, ten, 4)
}
