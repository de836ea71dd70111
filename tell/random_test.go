package tell

import (
	"fmt"
	"math/rand"
	"slices"
	"strings"
	"testing"

	"wayfarer/addr"
	"wayfarer/api"
	"wayfarer/fib"
	"wayfarer/loop"
	"wayfarer/net"
	"wayfarer/play"
	"wayfarer/script"
)

// happening is some event of a net of n machines that is Right; a prefix may be several machines' own.
func happening(g *rand.Rand, n int) script.Event {
	i, k := g.Intn(n), g.Intn(6)
	prefixes := []addr.Prefix{ten, high, {}, {Addr: 0x0a010000, Len: 16}, {Addr: 0x0a010203, Len: 32}}
	switch p := prefixes[g.Intn(len(prefixes))]; g.Intn(16) {
	case 0, 1:
		return boot(i)
	case 2:
		return script.Event{Kind: script.Crash, I: i, Picks: strings.Repeat("\x01\x00\x00\x00\x00\x00", g.Intn(3))}
	case 3:
		return script.Event{Kind: script.Fail, I: i, N: g.Intn(8)}
	case 4, 5, 6:
		return link(i, g.Intn(n), g.Intn(6))
	case 7:
		return off(i, p)
	case 8, 9:
		return own(i, p)
	case 10:
		return script.Event{Kind: script.Lose, K: k}
	case 11:
		return script.Event{Kind: script.Again, K: k}
	case 12:
		return script.Event{Kind: script.Tick, I: i}
	case 13:
		return script.Event{Kind: script.Deliver, K: k, N: []int{0, 20, 1024}[g.Intn(3)]}
	}
	return round
}

// plainly is what Run is to tell, said once more, of all that the bytes let happen.
func plainly(b []byte) []string {
	w, came, at, e := play.Bytes(b)
	var list []string
	say := func(form string, of ...any) { list = append(list, fmt.Sprintf(form, of...)) }
	for _, c := range came {
		say("%s", c.Word())
	}
	for i := 0; w != nil && i < w.Size(); i++ {
		if r := w.Router(i); r != nil {
			say("router %d seq %d lease %d", i, r.Seq(), r.State().Lease())
			for _, x := range r.Fib() {
				say("%s", plainEntry(w, i, x))
			}
		} else {
			say("router %d down", i)
		}
	}
	if w != nil {
		if i, a, ok := loop.Find(w.Fibs()); ok {
			say("loop %d %d", i, a)
		}
	}
	if e != api.OK {
		say("error %s at %d", e.Word(), at)
	}
	for i := range list {
		if i == 500 {
			list[i] = "many"
			return list[:i+1]
		}
	}
	return list
}

// plainEntry is an entry of a machine that runs, and how far it is to its prefix.
func plainEntry(w *net.Net, i int, x fib.Entry) string {
	s := x.Prefix.String()
	switch x.How {
	case fib.Here:
		s += " here"
	case fib.Via:
		s += fmt.Sprint(" via ", x.Next)
	case fib.Blackhole:
		s += " drop"
	}
	if d, ok := w.Router(i).Distance(x.Prefix); ok {
		s += fmt.Sprint(" at ", d)
	}
	return s
}

// Random scripts, whole or spoilt, tell what is said of them plainly.
func TestRandomScripts(t *testing.T) {
	told := map[string]int{}
	for seed := range int64(150) {
		g := rand.New(rand.NewSource(seed))
		n := g.Intn(8) + 1
		var list []script.Event
		most := 700
		// A ring is rare, and seldom lasts: now and then a script begins with one.
		if n >= 4 && g.Intn(3) == 0 {
			list, most = ring(ten), 6
		}
		for range g.Intn(most) {
			list = append(list, happening(g, n))
		}
		b := encoded(t, n, []int{3, 8, 16, 64}[g.Intn(4)], list...)
		switch g.Intn(3) {
		case 0:
			b = b[:g.Intn(len(b)+1)]
		case 1:
			b[g.Intn(len(b))] ^= 1 << g.Intn(8)
		}
		want := plainly(b)
		for _, s := range want {
			for _, word := range strings.Fields(s) {
				told[word]++
			}
		}
		if got := Run(b); !slices.Equal(got, want) {
			t.Fatalf("seed %d: Run tells\n%q\nwant\n%q", seed, got, want)
		}
	}
	for _, word := range strings.Fields("ok arg none state io full router seq lease down here via drop at loop error form many") {
		if told[word] == 0 {
			t.Errorf("%q is never told", word)
		}
	}
}
