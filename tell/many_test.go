package tell

import (
	"fmt"
	"slices"
	"testing"

	"wayfarer/script"
)

// padded is that script, ahead of which so many events come that turn nothing, and tell none.
func padded(n int, list []script.Event) []script.Event {
	return append(slices.Repeat([]script.Event{{Kind: script.Lose, K: 9}}, n), list...)
}

// Whatever would be the 501st line: many is told in its place.
func TestRunOfManyLines(t *testing.T) {
	list := ring(ten)
	for n := 470; n <= 500; n++ {
		b := append(encoded(t, 4, 64, padded(n, list)...), 99)
		want := append(slices.Repeat([]string{"none"}, n), oks(13,
			"router 0 seq 1 lease 8", "10.0.0.0/8 here at 0",
			"router 1 seq 0 lease 0", "10.0.0.0/8 via 2 at 9",
			"router 2 seq 0 lease 0", "10.0.0.0/8 via 1 at 7",
			"router 3 seq 1 lease 8", "10.0.0.0/8 here at 0",
			"loop 1 167772160",
			fmt.Sprintf("error form at %d", 3+16*(n+13)),
		)...)
		if len(want) > 500 {
			want = append(want[:500], "many")
		}
		tells(t, fmt.Sprintf("%d events ahead", n), b, want...)
	}
}

// The last line that may be told, and the one behind it, of a net with nothing but words and a machine.
func TestRunOfJustSoManyLines(t *testing.T) {
	ticks := slices.Repeat([]script.Event{{Kind: script.Tick}}, 8192)
	states := slices.Repeat([]string{"state"}, 500)
	b := encoded(t, 1, 8, ticks[:499]...)
	tells(t, "499 events", b, append(slices.Clone(states[:499]), "router 0 down")...)
	tells(t, "499 events and a byte", append(b, 6), append(slices.Clone(states[:499]), "router 0 down", "many")...)
	for _, n := range []int{500, 501, 502, 1000, 8192} {
		b := encoded(t, 1, 8, ticks[:n]...)
		want := append(slices.Clone(states), "many")
		tells(t, fmt.Sprintf("%d events", n), b, want...)
		tells(t, fmt.Sprintf("%d events and a byte", n), append(b, 6), want...)
		tells(t, fmt.Sprintf("%d events and one more", n), append(b, b[3:19]...), want...)
	}
}

// Of many events the words of the first ones are told, whatever comes behind them.
func TestRunOfManyEvents(t *testing.T) {
	list := padded(498, []script.Event{boot(0), boot(0), boot(1), boot(1), round})
	list = append(list, slices.Repeat([]script.Event{round}, 8192-len(list))...)
	want := append(slices.Repeat([]string{"none"}, 498), "ok", "state", "many")
	tells(t, "as many as there may be", encoded(t, 2, 64, list...), want...)
}

// What is told once is nobody else's: it may be written into.
func TestRunsAreApart(t *testing.T) {
	for _, b := range [][]byte{nil, encoded(t, 4, 64, ring(ten)...), encoded(t, 4, 64, padded(600, ring(ten))...)} {
		first := Run(b)
		want := slices.Clone(first)
		clear(first)
		tells(t, "again", b, want...)
	}
}
