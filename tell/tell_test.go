package tell

import (
	"fmt"
	"math"
	"slices"
	"testing"

	"wayfarer/addr"
	"wayfarer/api"
	"wayfarer/fib"
	"wayfarer/script"
)

var (
	ten  = addr.Prefix{Addr: 0x0a000000, Len: 8}
	high = addr.Prefix{Addr: 0xc0a80000, Len: 16}
)

func TestEntry(t *testing.T) {
	for _, c := range []struct {
		e    fib.Entry
		want string
	}{
		{fib.Entry{}, "0.0.0.0/0 none"},
		{fib.Entry{Prefix: ten, How: fib.NoRoute}, "10.0.0.0/8 none"},
		{fib.Entry{Prefix: ten, How: fib.Here}, "10.0.0.0/8 here"},
		{fib.Entry{Prefix: ten, How: fib.Via}, "10.0.0.0/8 via 0"},
		{fib.Entry{Prefix: ten, How: fib.Blackhole}, "10.0.0.0/8 drop"},
		{fib.Entry{Prefix: addr.Prefix{Addr: 0xfffefdfc, Len: 32}, How: fib.Here}, "255.254.253.252/32 here"},
		{fib.Entry{Prefix: high, How: fib.Via, Next: 7}, "192.168.0.0/16 via 7"},
		{fib.Entry{Prefix: high, How: fib.Via, Next: 10}, "192.168.0.0/16 via 10"},
		{fib.Entry{Prefix: high, How: fib.Via, Next: -1}, "192.168.0.0/16 via -1"},
		{fib.Entry{Prefix: high, How: fib.Via, Next: math.MaxInt}, "192.168.0.0/16 via 9223372036854775807"},
		{fib.Entry{Prefix: high, How: fib.Via, Next: math.MinInt}, "192.168.0.0/16 via -9223372036854775808"},
	} {
		if got := Entry(c.e); got != c.want {
			t.Errorf("Entry of %+v tells %q, want %q", c.e, got, c.want)
		}
	}
}

// Next is told of Via alone.
func TestEntryWithoutNext(t *testing.T) {
	words := map[fib.How]string{fib.NoRoute: "none", fib.Here: "here", fib.Blackhole: "drop"}
	for h, word := range words {
		for _, next := range []int{0, 1, -1, math.MaxInt} {
			e := fib.Entry{Prefix: ten, How: h, Next: next}
			if got := Entry(e); got != "10.0.0.0/8 "+word {
				t.Errorf("Entry of %+v tells %q", e, got)
			}
		}
	}
}

func TestEntryOfAnotherHow(t *testing.T) {
	for _, h := range []fib.How{-1, 4, 5, 256, 257, 1 << 32, 1<<32 + 2, math.MinInt, math.MaxInt} {
		for _, p := range []addr.Prefix{{}, ten, {Addr: 1}} {
			e := fib.Entry{Prefix: p, How: h, Next: 3}
			if got := Entry(e); got != "" {
				t.Errorf("Entry of %+v tells %q", e, got)
			}
		}
	}
}

// Of a prefix that isn't Right its String is no text; the space and the word stay.
func TestEntryOfNoPrefix(t *testing.T) {
	for _, p := range []addr.Prefix{{Addr: 1}, {Len: 33}, {Len: -1}, {Addr: 0x0a000001, Len: 8}} {
		for h, want := range []string{" none", " here", " via 2", " drop"} {
			e := fib.Entry{Prefix: p, How: fib.How(h), Next: 2}
			if got := Entry(e); got != want {
				t.Errorf("Entry of %+v tells %q, want %q", e, got, want)
			}
		}
	}
}

// encoded is a script's bytes.
func encoded(t *testing.T, n, sectors int, list ...script.Event) []byte {
	t.Helper()
	b, e := script.Encode(n, sectors, list)
	if e != api.OK {
		t.Fatalf("Encode tells %q", e.Word())
	}
	return b
}

// tells says so if of some bytes other lines are told, or they are turned.
func tells(t *testing.T, what string, b []byte, want ...string) {
	t.Helper()
	was := slices.Clone(b)
	got := Run(b)
	if !slices.Equal(got, want) {
		t.Errorf("%s: Run tells\n%q\nwant\n%q", what, got, want)
	}
	if !slices.Equal(b, was) {
		t.Errorf("%s: Run turned what it was given", what)
	}
}

// oks is so many words of events that went well, and lines behind them.
func oks(n int, behind ...string) []string {
	return append(slices.Repeat([]string{"ok"}, n), behind...)
}

// Events, for short.

func boot(i int) script.Event { return script.Event{Kind: script.Boot, I: i} }

func link(i, k, cost int) script.Event {
	return script.Event{Kind: script.Link, I: i, K: k, N: cost}
}

func own(i int, p addr.Prefix) script.Event {
	return script.Event{Kind: script.Own, I: i, Prefix: p}
}

func off(i int, p addr.Prefix) script.Event {
	return script.Event{Kind: script.Off, I: i, Prefix: p}
}

var round = script.Event{Kind: script.Round}

// The example of the chapter, and other bytes that tell no net.
func TestRunOfNoNet(t *testing.T) {
	tells(t, "nil", nil, "error form at 0")
	for _, s := range []string{"", "\x01", "\x01\x00", "\x00\x00\x08", "\x09\x00\x08", "\xff\xff\xff", "\x01\x00\x00", "\x01\x02\x01", "\x00\x00\x08" + string(make([]byte, 16))} {
		tells(t, fmt.Sprintf("%q", s), []byte(s), "error form at 0")
	}
	b := make([]byte, api.MaxBytes+1)
	tells(t, "as many bytes as there may be, of no net", b[1:], "error form at 0")
	b[0], b[2] = 1, 8
	tells(t, "too many bytes", b, "error many at 0")
}

func TestRunOfNoEvents(t *testing.T) {
	tells(t, "one machine", []byte("\x01\x00\x08"), "router 0 down")
	tells(t, "eight machines", []byte("\x08\x02\x00"),
		"router 0 down", "router 1 down", "router 2 down", "router 3 down", "router 4 down", "router 5 down", "router 6 down", "router 7 down")
	tells(t, "two machines, and a byte", []byte("\x02\x00\x01\x00"), "router 0 down", "router 1 down", "error form at 3")
}

func TestRunTellsWords(t *testing.T) {
	list := []script.Event{
		{Kind: script.Tick},
		boot(0),
		boot(0),
		boot(2),
		off(0, ten),
		{Kind: script.Fail},
		own(0, ten),
		own(0, ten),
		own(0, ten),
		{Kind: script.Again},
	}
	want := []string{"state", "ok", "state", "arg", "none", "ok", "io", "ok", "state", "none"}
	entries := []string{"10.0.0.0/8 here at 0"}
	for i := range 15 {
		list = append(list, own(0, addr.Prefix{Addr: uint32(i+11) << 24, Len: 8}))
		want = append(want, "ok")
		entries = append(entries, fmt.Sprintf("%d.0.0.0/8 here at 0", i+11))
	}
	list = append(list, own(0, addr.Prefix{}))
	want = append(want, "full", "router 0 seq 0 lease 0")
	want = append(want, entries...)
	tells(t, "each word", encoded(t, 2, 64, list...), append(want, "router 1 down")...)
}

func TestRunTellsMachines(t *testing.T) {
	list := []script.Event{
		boot(0), boot(1), boot(2), boot(4),
		link(0, 1, 1000), link(1, 2, 1000), link(2, 3, 1),
		own(0, ten), own(2, high), own(0, addr.Prefix{}),
		round, round, round,
		off(0, addr.Prefix{}),
	}
	tells(t, "some run", encoded(t, 5, 64, list...), oks(14,
		"router 0 seq 1 lease 8",
		"0.0.0.0/0 drop",
		"10.0.0.0/8 here at 0",
		"192.168.0.0/16 via 1 at 2000",
		"router 1 seq 0 lease 0",
		"0.0.0.0/0 via 0 at 1000",
		"10.0.0.0/8 via 0 at 1000",
		"192.168.0.0/16 via 2 at 1000",
		"router 2 seq 1 lease 8",
		"0.0.0.0/0 via 1 at 2000",
		"10.0.0.0/8 via 1 at 2000",
		"192.168.0.0/16 here at 0",
		"router 3 down",
		"router 4 seq 0 lease 0",
	)...)
	list = append(list, script.Event{Kind: script.Crash, I: 1}, round, round, round)
	tells(t, "one crashed", encoded(t, 5, 64, list...), oks(18,
		"router 0 seq 1 lease 8",
		"0.0.0.0/0 drop",
		"10.0.0.0/8 here at 0",
		"192.168.0.0/16 drop",
		"router 1 down",
		"router 2 seq 1 lease 8",
		"0.0.0.0/0 drop",
		"10.0.0.0/8 drop",
		"192.168.0.0/16 here at 0",
		"router 3 down",
		"router 4 seq 0 lease 0",
	)...)
}

// Seq and Lease are told as they are: 0 behind a Boot, and more than that lease behind a crash.
func TestRunTellsNumbers(t *testing.T) {
	list := []script.Event{boot(0), own(0, ten)}
	here := "10.0.0.0/8 here at 0"
	tells(t, "ahead of all ticks", encoded(t, 1, 64, list...), oks(2, "router 0 seq 0 lease 0", here)...)
	list = append(list, slices.Repeat([]script.Event{{Kind: script.Tick}}, 13)...)
	tells(t, "behind thirteen ticks", encoded(t, 1, 64, list...), oks(15, "router 0 seq 2 lease 8", here)...)
	list = append(list, script.Event{Kind: script.Crash}, boot(0))
	tells(t, "behind a crash", encoded(t, 1, 64, list...), oks(17, "router 0 seq 0 lease 8", here)...)
	list = append(list, script.Event{Kind: script.Tick})
	tells(t, "and a tick", encoded(t, 1, 64, list...), oks(18, "router 0 seq 9 lease 16", here)...)
}

// ring is a script of four machines in a row, of which both ends have the same prefix: behind the loss of both, the two between send to each other.
func ring(p addr.Prefix) []script.Event {
	return []script.Event{
		boot(0), boot(1), boot(2), boot(3),
		link(0, 1, 3), link(1, 2, 4), link(2, 3, 5),
		own(0, p), own(3, p),
		round, round,
		link(0, 1, 0), link(2, 3, 0),
	}
}

func TestRunTellsALoop(t *testing.T) {
	for _, c := range []struct {
		p    addr.Prefix
		name string
		at   string // the least address
	}{
		{ten, "10.0.0.0/8", "167772160"},
		{high, "192.168.0.0/16", "3232235520"},
		{addr.Prefix{}, "0.0.0.0/0", "0"},
		{addr.Prefix{Addr: math.MaxUint32, Len: 32}, "255.255.255.255/32", "4294967295"},
	} {
		want := oks(13,
			"router 0 seq 1 lease 8", c.name+" here at 0",
			"router 1 seq 0 lease 0", c.name+" via 2 at 9",
			"router 2 seq 0 lease 0", c.name+" via 1 at 7",
			"router 3 seq 1 lease 8", c.name+" here at 0",
			"loop 1 "+c.at,
		)
		b := encoded(t, 4, 64, ring(c.p)...)
		tells(t, c.name, b, want...)
		tells(t, c.name+", and a byte", append(b, 0), append(want, "error form at 211")...)
	}
	list := append(ring(ten), round)
	tells(t, "behind a Round", encoded(t, 4, 64, list...), oks(14,
		"router 0 seq 1 lease 8", "10.0.0.0/8 here at 0",
		"router 1 seq 0 lease 0", "10.0.0.0/8 drop",
		"router 2 seq 0 lease 0", "10.0.0.0/8 drop",
		"router 3 seq 1 lease 8", "10.0.0.0/8 here at 0",
	)...)
}

// Of bytes that are cut off what comes ahead of the cut is told, and where the rest begins.
func TestRunOfWhatIsCutOff(t *testing.T) {
	b := encoded(t, 1, 64, boot(0), own(0, ten), boot(0))
	words := []string{"ok", "ok", "state"}
	machine := [][]string{{"router 0 down"}, {"router 0 seq 0 lease 0"}, {"router 0 seq 0 lease 0", "10.0.0.0/8 here at 0"}}
	for n := 3; n <= len(b); n++ {
		k := (n - 3) / 16
		want := slices.Concat(words[:k], machine[min(k, 2)])
		if n != 3+16*k {
			want = append(want, fmt.Sprintf("error form at %d", 3+16*k))
		}
		tells(t, fmt.Sprintf("%d bytes", n), b[:n], want...)
	}
}
