package play

import (
	"fmt"
	"math/rand"
	"slices"
	"testing"

	"wayfarer/addr"
	"wayfarer/api"
	"wayfarer/loop"
	"wayfarer/net"
	"wayfarer/script"
)

// pool is prefixes, many of which begin alike; the one with the number k may be the own of the machine k alone, modulo how many there are.
func pool() []addr.Prefix {
	return []addr.Prefix{
		{}, ten, tenOne, {Addr: 1 << 31, Len: 1}, {Addr: 0x0a010200, Len: 24}, {Addr: 0x0a010203, Len: 32},
		{Addr: 0x0a000000, Len: 16}, {Len: 32}, {Addr: 0xffff0000, Len: 16}, {Addr: 0x0a800000, Len: 9},
	}
}

// happening is some event of a net of n machines that is Right; no prefix is two machines' own.
func happening(g *rand.Rand, n int) script.Event {
	i, k := g.Intn(n), g.Intn(min(g.Intn(20)+1, 12))
	switch g.Intn(16) {
	case 0, 1:
		return script.Event{Kind: script.Boot, I: i}
	case 2:
		picks := make([]byte, 6*g.Intn(4))
		g.Read(picks)
		for at := 0; at < len(picks); at += 6 {
			picks[at] %= 3
		}
		return script.Event{Kind: script.Crash, I: i, Picks: string(picks)}
	case 3:
		return script.Event{Kind: script.Fail, I: i, N: g.Intn(8)}
	case 4, 5:
		return script.Event{Kind: script.Link, I: i, K: g.Intn(n), N: g.Intn(6)}
	case 6:
		return script.Event{Kind: script.Off, I: i, Prefix: pool()[i]}
	case 7, 8:
		at := g.Intn(len(pool()))
		return script.Event{Kind: script.Own, I: at % n, Prefix: pool()[at]}
	case 9:
		return script.Event{Kind: script.Lose, K: k}
	case 10:
		return script.Event{Kind: script.Again, K: k}
	case 11:
		return script.Event{Kind: script.Round}
	case 12, 13:
		return script.Event{Kind: script.Tick, I: i}
	}
	return script.Event{Kind: script.Deliver, K: k, N: []int{0, 3, 20, 1024, 1024, 1024, 65536}[g.Intn(7)]}
}

// plainly lets an event happen by the net's own calls.
func plainly(w *net.Net, e script.Event) api.Errno {
	calls := []func() api.Errno{
		func() api.Errno { return w.Boot(e.I) },
		func() api.Errno { return w.Crash(e.I, e.Chosen()) },
		func() api.Errno { return w.Fail(e.I, e.N) },
		func() api.Errno { return w.Link(e.I, e.K, e.N) },
		func() api.Errno { return w.Own(e.I, e.Prefix, true) },
		func() api.Errno { return w.Own(e.I, e.Prefix, false) },
		func() api.Errno { return w.Tick(e.I) },
		func() api.Errno { return w.Deliver(e.K, e.N) },
		func() api.Errno { return w.Lose(e.K) },
		func() api.Errno { return w.Again(e.K) },
		func() api.Errno { w.Round(); return api.OK },
	}
	return calls[e.Kind]()
}

// Random scripts do, as events and as bytes, what the net's calls do; and behind each event nothing is sent in a ring.
func TestRandomScripts(t *testing.T) {
	words := map[api.Errno]int{}
	for seed := range int64(60) {
		g := rand.New(rand.NewSource(seed))
		n, sectors := g.Intn(8)+1, []int{3, 4, 8, 12, 64}[g.Intn(5)]
		var list []script.Event
		var want []api.Errno
		twin := net.New(n, sectors)
		for range 250 {
			e := happening(g, n)
			list = append(list, e)
			want = append(want, plainly(twin, e))
			words[want[len(want)-1]]++
			if i, a, ok := loop.Find(twin.Fibs()); ok {
				t.Fatalf("seed %d: behind %+v something is sent in a ring from %d, to %#x", seed, e, i, a)
			}
		}
		what := fmt.Sprintf("seed %d", seed)
		w, came := Events(n, sectors, list)
		if !slices.Equal(came, want) {
			t.Fatalf("%s: Events tells %v, want %v", what, came, want)
		}
		same(t, what, w, twin)
		b := encoded(t, n, sectors, list)
		same(t, what, plays(t, what, b, want, len(b), api.OK), twin)
	}
	for e := api.OK; e <= api.ErrFull; e++ {
		if words[e] == 0 {
			t.Errorf("%q is never told", e.Word())
		}
	}
}
