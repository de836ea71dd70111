package net

import (
	"bytes"
	"fmt"
	"math"
	"slices"
	"testing"

	"wayfarer/addr"
	"wayfarer/api"
	"wayfarer/disk"
	"wayfarer/dist"
	"wayfarer/fib"
	"wayfarer/tlv"
)

// The prefixes of these tests, by rising order.
var (
	all    = addr.Prefix{}
	ten    = addr.Prefix{Addr: 0x0a000000, Len: 8}
	tenOne = addr.Prefix{Addr: 0x0a010000, Len: 16}
	high   = addr.Prefix{Addr: 1 << 31, Len: 1}
	last   = addr.Prefix{Addr: math.MaxUint32, Len: 32}
)

// missing is numbers that no machine has, in a net of eight or fewer.
var missing = []int{-1, 8, 9, 256, 1 << 32, math.MinInt, math.MaxInt}

func tells(t *testing.T, what string, e, want api.Errno) {
	t.Helper()
	if e != want {
		t.Errorf("%s tells %q, want %q", what, e.Word(), want.Word())
	}
}

// running is a net of machines that run, each with a disk of 64 sectors.
func running(t *testing.T, n int) *Net {
	t.Helper()
	w := New(n, 64)
	for i := range n {
		tells(t, "Boot", w.Boot(i), api.OK)
	}
	return w
}

// lined is a running net in which each machine has a link to the next one, of that cost.
func lined(t *testing.T, costs ...int) *Net {
	t.Helper()
	w := running(t, len(costs)+1)
	for i, cost := range costs {
		tells(t, "Link", w.Link(i, i+1, cost), api.OK)
	}
	return w
}

// far says so if it isn't so far from a machine to a prefix; below 0: there is no way.
func far(t *testing.T, what string, w *Net, i int, p addr.Prefix, want int) {
	t.Helper()
	n, ok := w.Router(i).Distance(p)
	if want < 0 && (ok || n != 0) || want >= 0 && (!ok || n != want) {
		t.Errorf("%s: Distance of %v from %d is %d, %v, want %d", what, p, i, n, ok, want)
	}
}

// fars is far of each machine.
func fars(t *testing.T, what string, w *Net, p addr.Prefix, want ...int) {
	t.Helper()
	for i, n := range want {
		far(t, what, w, i, p, n)
	}
}

// of is what is told of a prefix.
func of(p addr.Prefix, id, seq uint32, metric uint16) tlv.Update {
	return tlv.Update{Prefix: p, ID: id, Dist: dist.Dist{Seq: seq, Metric: metric}}
}

// packet is a datagram that tells this.
func packet(from, to int, list ...tlv.Update) Packet {
	return Packet{from, to, tlv.Encode(list)[0]}
}

func samePacket(a, b Packet) bool {
	return a.From == b.From && a.To == b.To && bytes.Equal(a.Data, b.Data)
}

// packets is all that is under way.
func packets(w *Net) []Packet {
	var list []Packet
	for k := range w.Waiting() {
		p, _ := w.Packet(k)
		list = append(list, p)
	}
	return list
}

// waits says so if what is under way isn't just that.
func waits(t *testing.T, what string, w *Net, want ...Packet) {
	t.Helper()
	if got := packets(w); !slices.EqualFunc(got, want, samePacket) {
		t.Errorf("%s: under way is %v, want %v", what, got, want)
	}
}

func TestNew(t *testing.T) {
	for _, c := range [][2]int{{math.MinInt, 1}, {-1, 1}, {0, 1}, {1, 1}, {2, 2}, {7, 7}, {8, 8}, {9, 8}, {1 << 32, 8}, {math.MaxInt, 8}} {
		w := New(c[0], 64)
		if w.Size() != c[1] || w.Waiting() != 0 || len(w.Fibs()) != c[1] {
			t.Errorf("New(%d): Size is %d, Waiting %d, Fibs %v", c[0], w.Size(), w.Waiting(), w.Fibs())
		}
		for i := range 9 {
			if w.Router(i) != nil {
				t.Errorf("New(%d): %d runs", c[0], i)
			}
			tells(t, fmt.Sprintf("New(%d), Boot(%d)", c[0], i), w.Boot(i), []api.Errno{api.OK, api.ErrArg}[min(i/c[1], 1)])
		}
		w.Round()
		if w.Waiting() != 0 {
			t.Errorf("New(%d): there are links", c[0])
		}
	}
}

func TestNewOfSectors(t *testing.T) {
	for _, c := range []struct {
		sectors, want int
		first, second api.Errno
	}{
		{math.MinInt, 1, api.ErrArg, api.ErrArg},
		{-1, 1, api.ErrArg, api.ErrArg},
		{0, 1, api.ErrArg, api.ErrArg},
		{1, 1, api.ErrArg, api.ErrArg},
		{3, 3, api.ErrArg, api.ErrArg},
		{4, 4, api.OK, api.ErrState},
		{512, 512, api.OK, api.ErrState},
		{513, 512, api.OK, api.ErrState},
		{math.MaxInt, 512, api.OK, api.ErrState},
	} {
		w := New(2, c.sectors)
		for i := range 2 {
			what := fmt.Sprintf("New(2, %d), Boot(%d)", c.sectors, i)
			if n := w.machines[i].disk.Size(); n != c.want {
				t.Errorf("%s: the disk has %d sectors", what, n)
			}
			tells(t, what, w.Boot(i), c.first)
			tells(t, what+" again", w.Boot(i), c.second)
			if (w.Router(i) != nil) != (c.first == api.OK) {
				t.Errorf("%s: Router is %v", what, w.Router(i))
			}
		}
	}
}

// Of no machines: so there is none such, whatever the number.
func TestANetOfNone(t *testing.T) {
	var w Net
	w.Round()
	tells(t, "Boot", w.Boot(0), api.ErrArg)
	tells(t, "Crash", w.Crash(0, nil), api.ErrArg)
	tells(t, "Fail", w.Fail(0, 0), api.ErrArg)
	tells(t, "Link", w.Link(0, 1, 1), api.ErrArg)
	tells(t, "Own", w.Own(0, ten, true), api.ErrState)
	tells(t, "Tick", w.Tick(0), api.ErrState)
	tells(t, "Deliver", w.Deliver(0, 1), api.ErrNone)
	if w.Size() != 0 || w.Waiting() != 0 || len(w.Fibs()) != 0 || w.Router(0) != nil {
		t.Error("there is something")
	}
}

func TestNoSuchMachine(t *testing.T) {
	w := New(3, 64)
	for _, i := range append([]int{3, 7}, missing...) {
		what := fmt.Sprint(i)
		if w.Router(i) != nil {
			t.Errorf("Router(%d) is there", i)
		}
		tells(t, "Boot "+what, w.Boot(i), api.ErrArg)
		tells(t, "Crash "+what, w.Crash(i, []disk.Pick{{How: 1}}), api.ErrArg)
		tells(t, "Fail "+what, w.Fail(i, 0), api.ErrArg)
		tells(t, "Own "+what, w.Own(i, ten, true), api.ErrState)
		tells(t, "Own "+what, w.Own(i, addr.Prefix{Len: 33}, true), api.ErrState)
		tells(t, "Tick "+what, w.Tick(i), api.ErrState)
		tells(t, "Link "+what, w.Link(i, 0, 1), api.ErrArg)
		tells(t, "Link "+what, w.Link(0, i, 1), api.ErrArg)
		tells(t, "Link "+what, w.Link(i, i, 1), api.ErrArg)
	}
}

func TestBoot(t *testing.T) {
	w := New(8, 64)
	for i := range 8 {
		tells(t, "Boot", w.Boot(i), api.OK)
		r := w.Router(i)
		if r == nil || r.State().ID() != uint32(i)+1 || r.Now() != 0 || r.Seq() != 0 {
			t.Fatalf("Router(%d) is %v", i, r)
		}
		tells(t, "Boot again", w.Boot(i), api.ErrState)
		if w.Router(i) != r {
			t.Errorf("Boot again: %d is another one", i)
		}
		for k := i + 1; k < 8; k++ {
			if w.Router(k) != nil {
				t.Errorf("Boot(%d): %d runs", i, k)
			}
		}
	}
}

func TestBootWhileTheDiskFails(t *testing.T) {
	w := New(2, 64)
	for after := range 2 {
		tells(t, "Fail", w.Fail(1, after), api.OK)
		tells(t, "Boot", w.Boot(1), api.ErrIO)
		if w.Router(1) != nil || w.Router(0) != nil {
			t.Error("it runs")
		}
		tells(t, "Own", w.Own(1, ten, true), api.ErrState)
		tells(t, "Crash", w.Crash(1, nil), api.OK)
	}
	tells(t, "Fail", w.Fail(1, 0), api.OK)
	tells(t, "Boot of the other one", w.Boot(0), api.OK)
	tells(t, "Boot", w.Boot(1), api.ErrIO)
	tells(t, "Boot again", w.Boot(1), api.OK)
	tells(t, "Own", w.Own(1, ten, true), api.OK)
	far(t, "Own", w, 1, ten, 0)
}

// A disk's first crash is its machine's; what was acknowledged is its own behind that.
func TestBootBehindACrash(t *testing.T) {
	w := lined(t, 5)
	tells(t, "Own", w.Own(0, ten, true), api.OK)
	tells(t, "Own", w.Own(1, high, true), api.OK)
	for range 3 {
		w.Round()
	}
	fars(t, "ahead", w, high, 5, 0)
	old := w.Router(0)
	tells(t, "Crash", w.Crash(0, nil), api.OK)
	if w.Router(0) != nil || w.Router(1) == nil {
		t.Errorf("behind a Crash: %v, %v", w.Router(0), w.Router(1))
	}
	tells(t, "Boot of one that runs", w.Boot(1), api.ErrState)
	tells(t, "Boot", w.Boot(0), api.OK)
	r := w.Router(0)
	if r == nil || r == old || r.Now() != 0 || r.Seq() != 0 || r.State().ID() != 1 || r.State().Lease() != 8 {
		t.Fatalf("behind a Boot: %v", r)
	}
	fars(t, "behind a Boot", w, ten, 0, 5)
	far(t, "what it knew", w, 0, high, -1)
	tells(t, "Tick", w.Tick(0), api.OK)
	waits(t, "its link is there", w, packet(0, 1, of(ten, 1, 9, 0), tlv.Update{Prefix: high, Dist: dist.Dist{Metric: api.Inf}}))
}

func TestCrash(t *testing.T) {
	for _, c := range []struct {
		what  string
		picks []disk.Pick
		want  int
	}{
		{"as it was", nil, -1},
		{"as it was, picked", []disk.Pick{{How: 0}}, -1},
		{"as it was written", []disk.Pick{{How: 1}}, 0},
		{"spoilt", []disk.Pick{{How: 2, At: 9, Turn: 1}}, -1},
		{"spoilt by nothing", []disk.Pick{{How: 2}}, 0},
		{"another one's pick", []disk.Pick{{How: 0}, {How: 1}}, -1},
	} {
		w := running(t, 2)
		tells(t, "Own", w.Own(1, high, true), api.OK)
		w.Fail(0, 1)
		w.Fail(1, 1)
		for i := range 2 {
			// It is written, but not safe.
			tells(t, "Own", w.Own(i, ten, true), api.ErrIO)
			far(t, c.what, w, i, ten, -1)
		}
		picks := slices.Clone(c.picks)
		tells(t, "Crash", w.Crash(0, picks), api.OK)
		if !slices.Equal(picks, c.picks) {
			t.Errorf("%s: the picks are turned", c.what)
		}
		if w.Router(0) != nil {
			t.Errorf("%s: it runs", c.what)
		}
		tells(t, "Boot", w.Boot(0), api.OK)
		far(t, c.what, w, 0, ten, c.want)
		// The other one's disk didn't crash.
		far(t, c.what, w, 1, high, 0)
		tells(t, "Own", w.Own(1, ten, true), api.OK)
		far(t, c.what, w, 1, ten, 0)
	}
}

func TestCrashOfOneThatDoesNotRun(t *testing.T) {
	for _, c := range []struct {
		what  string
		picks []disk.Pick
	}{{"as it was", nil}, {"as it was written", []disk.Pick{{How: 1}}}} {
		w := New(1, 64)
		tells(t, "Fail", w.Fail(0, 1), api.OK)
		tells(t, "Boot", w.Boot(0), api.ErrIO)
		tells(t, "Crash", w.Crash(0, c.picks), api.OK)
		b, _ := w.machines[0].disk.Read(0)
		if (b[0] != 0) != (len(c.picks) > 0) {
			t.Errorf("%s: the disk begins with %x", c.what, b)
		}
	}
	w := New(1, 64)
	tells(t, "Fail", w.Fail(0, 0), api.OK)
	tells(t, "Crash", w.Crash(0, nil), api.OK)
	tells(t, "Boot: no call fails behind a Crash", w.Boot(0), api.OK)
	for range 3 {
		tells(t, "Crash again", w.Crash(0, nil), api.OK)
	}
	tells(t, "Boot", w.Boot(0), api.OK)
}

func TestFail(t *testing.T) {
	w := running(t, 2)
	for after := range 5 {
		tells(t, "Fail", w.Fail(1, after), api.OK)
		for i := range 4 {
			p := addr.Prefix{Addr: uint32(i) << 24, Len: 8}
			on := after%2 == 0
			want := api.OK
			if i == after/2 {
				want = api.ErrIO
			}
			what := fmt.Sprintf("Fail(%d), Own %d", after, i)
			tells(t, what, w.Own(1, p, on), want)
			if want == api.ErrIO {
				tells(t, what+" again", w.Own(1, p, on), api.OK)
			}
			// The other one's disk doesn't fail.
			tells(t, what, w.Own(0, p, on), api.OK)
		}
	}
	for _, after := range []int{-1, math.MinInt} {
		w.Fail(1, 0)
		tells(t, "Fail", w.Fail(1, after), api.OK)
		tells(t, "Own of none", w.Own(1, last, true), api.OK)
		tells(t, "Own of none", w.Own(1, last, false), api.OK)
	}
}

func TestWrongLinks(t *testing.T) {
	w := lined(t, 4)
	tells(t, "Own", w.Own(1, ten, true), api.OK)
	w.Round()
	for _, cost := range []int{-1, 1001, 1 << 32, math.MinInt, math.MaxInt} {
		tells(t, fmt.Sprintf("Link(0, 1, %d)", cost), w.Link(0, 1, cost), api.ErrArg)
		tells(t, fmt.Sprintf("Link(1, 0, %d)", cost), w.Link(1, 0, cost), api.ErrArg)
	}
	for i := range 2 {
		for _, cost := range []int{0, 1, 7} {
			tells(t, "Link with itself", w.Link(i, i, cost), api.ErrArg)
		}
	}
	for _, i := range append([]int{2, 7}, missing...) {
		tells(t, fmt.Sprintf("Link(0, %d)", i), w.Link(0, i, 1), api.ErrArg)
		tells(t, fmt.Sprintf("Link(%d, 0)", i), w.Link(i, 0, 0), api.ErrArg)
	}
	fars(t, "as it was", w, ten, 4, 0)
	tells(t, "Tick", w.Tick(0), api.OK)
	tells(t, "Tick", w.Tick(1), api.OK)
	waits(t, "as it was", w, packet(0, 1, of(ten, 2, 1, 4)), packet(1, 0, of(ten, 2, 1, 0)))
}

func TestLink(t *testing.T) {
	for _, c := range [][2]int{{0, 1}, {1, 0}} {
		w := running(t, 3)
		w.Own(0, ten, true)
		w.Own(1, high, true)
		for _, cost := range []int{1, 1000, 3} {
			tells(t, "Link", w.Link(c[0], c[1], cost), api.OK)
			w.Round()
			fars(t, "both know", w, ten, 0, cost, -1)
			fars(t, "both know", w, high, cost, 0, -1)
		}
		tells(t, "another cost", w.Link(c[0], c[1], 8), api.OK)
		fars(t, "another cost, at once", w, ten, 0, 8, -1)
		fars(t, "another cost, at once", w, high, 8, 0, -1)
		tells(t, "no link", w.Link(c[0], c[1], 0), api.OK)
		fars(t, "no link, at once", w, ten, 0, -1, -1)
		fars(t, "no link, at once", w, high, -1, 0, -1)
		w.Tick(0)
		w.Tick(1)
		waits(t, "no link", w)
		tells(t, "a link again", w.Link(c[1], c[0], 2), api.OK)
		fars(t, "nothing was told since", w, ten, 0, -1, -1)
		w.Round()
		fars(t, "a link again", w, ten, 0, 2, -1)
	}
}

func TestLinksOfWhatDoesNotRun(t *testing.T) {
	w := New(3, 64)
	tells(t, "Link", w.Link(0, 1, 5), api.OK)
	tells(t, "Link", w.Link(2, 1, 6), api.OK)
	tells(t, "Boot", w.Boot(1), api.OK)
	tells(t, "Own", w.Own(1, ten, true), api.OK)
	w.Tick(1)
	waits(t, "to those that don't run", w, packet(1, 0, of(ten, 2, 1, 0)), packet(1, 2, of(ten, 2, 1, 0)))
	w.Round()
	tells(t, "Boot", w.Boot(0), api.OK)
	tells(t, "Boot", w.Boot(2), api.OK)
	fars(t, "what came ahead of a Boot", w, ten, -1, 0, -1)
	w.Round()
	fars(t, "behind a Round", w, ten, 5, 0, 6)

	w.Crash(1, nil)
	tells(t, "another cost", w.Link(1, 0, 9), api.OK)
	tells(t, "no link", w.Link(1, 2, 0), api.OK)
	fars(t, "of one that doesn't run", w, ten, 9)
	far(t, "of one that doesn't run", w, 2, ten, -1)
	tells(t, "Boot", w.Boot(1), api.OK)
	w.Round()
	w.Round()
	fars(t, "behind a Crash and a Boot", w, ten, 9, 0, -1)
	tells(t, "a link again", w.Link(1, 2, 4), api.OK)
	w.Round()
	fars(t, "a link again", w, ten, 9, 0, 4)
}

func TestLinksOfEight(t *testing.T) {
	w := running(t, 8)
	for a := range 8 {
		for b := range a {
			tells(t, "Link", w.Link(a, b, 10*a+b), api.OK)
		}
	}
	for i := range 8 {
		tells(t, "Own", w.Own(i, addr.Prefix{Addr: uint32(i) << 24, Len: 8}, true), api.OK)
	}
	w.Round()
	for a := range 8 {
		for b := range a {
			far(t, "the greater one", w, a, addr.Prefix{Addr: uint32(b) << 24, Len: 8}, 10*a+b)
			far(t, "the less one", w, b, addr.Prefix{Addr: uint32(a) << 24, Len: 8}, 10*a+b)
		}
	}
}

func TestOwn(t *testing.T) {
	w := New(2, 64)
	for _, p := range []addr.Prefix{ten, {Len: 33}} {
		tells(t, "Own of one that doesn't run", w.Own(0, p, true), api.ErrState)
		tells(t, "Own of one that doesn't run", w.Own(0, p, false), api.ErrState)
	}
	w.Boot(0)
	w.Boot(1)
	for _, p := range []addr.Prefix{{Len: 33}, {Len: -1}, {Addr: 1}, {Addr: 1, Len: 31}} {
		tells(t, "Own of none", w.Own(0, p, true), api.ErrArg)
		tells(t, "Own of none", w.Own(0, p, false), api.ErrArg)
	}
	tells(t, "off", w.Own(0, ten, false), api.ErrNone)
	tells(t, "on", w.Own(0, ten, true), api.OK)
	tells(t, "on again", w.Own(0, ten, true), api.ErrState)
	fars(t, "on", w, ten, 0, -1)
	tells(t, "off of another one", w.Own(1, ten, false), api.ErrNone)
	tells(t, "off", w.Own(0, ten, false), api.OK)
	fars(t, "off", w, ten, -1, -1)
	for i := range 15 {
		tells(t, "on", w.Own(0, addr.Prefix{Addr: uint32(i) << 28, Len: 4}, true), api.OK)
	}
	tells(t, "too many", w.Own(0, all, true), api.ErrFull)
	tells(t, "the other one's", w.Own(1, all, true), api.OK)
	w.Crash(0, nil)
	tells(t, "behind a Crash", w.Own(0, ten, true), api.ErrState)
}

func TestFibs(t *testing.T) {
	w := lined(t, 2, 3)
	w.Own(1, ten, true)
	w.Round()
	w.Round()
	w.Crash(2, nil)
	w.Link(0, 1, 0)
	want := []fib.Fib{{{Prefix: ten, How: fib.Blackhole}}, {{Prefix: ten, How: fib.Here}}, nil}
	is := func(what string) {
		t.Helper()
		if got := w.Fibs(); !slices.EqualFunc(got, want, func(a, b fib.Fib) bool { return slices.Equal(a, b) }) {
			t.Errorf("%s: Fibs is %v, want %v", what, got, want)
		}
	}
	is("one doesn't run")
	got := w.Fibs()
	clear(got[0])
	clear(got)
	is("again")
	w.Crash(1, nil)
	w.Boot(2)
	w.Link(0, 1, 1)
	want = []fib.Fib{{{Prefix: ten, How: fib.Blackhole}}, nil, {{Prefix: ten, How: fib.Blackhole}}}
	is("another one doesn't run")
	w.Boot(1)
	w.Round()
	want = []fib.Fib{{{Prefix: ten, How: fib.Via, Next: 1}}, {{Prefix: ten, How: fib.Here}}, {{Prefix: ten, How: fib.Via, Next: 1}}}
	is("all run")
}
