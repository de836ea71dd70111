package fib

import (
	"fmt"
	"math"
	"math/rand"
	"slices"
	"testing"

	"wayfarer/addr"
)

// The prefixes of these tests, by rising order.
var (
	all    = addr.Prefix{}
	nought = addr.Prefix{Len: 32}
	ten    = addr.Prefix{Addr: 0x0a000000, Len: 8}
	tenTen = addr.Prefix{Addr: 0x0a000000, Len: 16}
	tenOne = addr.Prefix{Addr: 0x0a010000, Len: 16}
	high   = addr.Prefix{Addr: 1 << 31, Len: 1}
	last   = addr.Prefix{Addr: math.MaxUint32, Len: 32}
)

func TestHowsInOrder(t *testing.T) {
	for i, h := range []How{NoRoute, Here, Via, Blackhole} {
		if int(h) != i {
			t.Errorf("How %d is %d", i, h)
		}
	}
}

func TestSorted(t *testing.T) {
	want := Fib{
		{addr.Prefix{Len: -1}, Via, 9}, {all, Here, 0}, {nought, Via, 1}, {addr.Prefix{Len: 33}, Blackhole, 0},
		{addr.Prefix{Addr: 1}, NoRoute, 2}, {ten, Blackhole, 0}, {tenTen, Via, 3}, {tenOne, NoRoute, 0},
		{high, How(7), -1}, {last, How(-1), math.MaxInt},
	}
	random := rand.New(rand.NewSource(1))
	for range 50 {
		f := slices.Clone(want)
		random.Shuffle(len(f), func(i, j int) { f[i], f[j] = f[j], f[i] })
		was := slices.Clone(f)
		if s := f.Sorted(); !slices.Equal(s, want) {
			t.Errorf("%v sorted: %v", f, s)
		}
		if !slices.Equal(f, was) {
			t.Errorf("Sorted turned what it is of: %v, was %v", f, was)
		}
	}
}

func TestSortedOfNone(t *testing.T) {
	for _, f := range []Fib{nil, {}} {
		if s := f.Sorted(); len(s) != 0 {
			t.Errorf("Sorted of none: %v", s)
		}
	}
}

// So many that a sort which isn't stable would show.
func TestSortedLeavesTheOrderOfOnePrefix(t *testing.T) {
	prefixes := []addr.Prefix{all, nought, ten, tenTen, tenOne, high, last}
	random := rand.New(rand.NewSource(2))
	for _, n := range []int{2, 3, 12, 13, 50, 2000} {
		var f Fib
		for i := range n {
			f = append(f, Entry{prefixes[random.Intn(len(prefixes))], How(random.Intn(4)), i})
		}
		var want Fib
		for _, p := range prefixes {
			for _, e := range f {
				if e.Prefix == p {
					want = append(want, e)
				}
			}
		}
		if s := f.Sorted(); !slices.Equal(s, want) {
			t.Errorf("of %d: %v, want %v", n, s, want)
		}
	}
}

func TestSortedIsNewMemory(t *testing.T) {
	f := append(make(Fib, 0, 9), Entry{all, Here, 1}, Entry{ten, Via, 2})
	was := slices.Clone(f)
	s := f.Sorted()
	for i := range s {
		s[i] = Entry{last, Blackhole, 9}
	}
	_ = append(s, Entry{high, Via, 3})
	if !slices.Equal(f, was) || f[:3][2] != (Entry{}) {
		t.Errorf("what was answered shares memory: %v", f[:3])
	}
	s = f.Sorted()
	f[0].Next = 5
	if s[0] != was[0] {
		t.Errorf("what was answered is turned: %v", s)
	}
}

func TestLookup(t *testing.T) {
	for _, c := range []struct {
		what string
		f    Fib
		a    uint32
		want Entry
	}{
		{"none", nil, 0, Entry{}},
		{"empty", Fib{}, 1, Entry{}},
		{"the longer one", Fib{{ten, Via, 1}, {tenOne, Blackhole, 0}}, 0x0a010203, Entry{tenOne, Blackhole, 0}},
		{"the longer one, first", Fib{{tenOne, Blackhole, 0}, {ten, Via, 1}}, 0x0a010203, Entry{tenOne, Blackhole, 0}},
		{"the shorter one", Fib{{ten, Via, 1}, {tenOne, Blackhole, 0}}, 0x0a020000, Entry{ten, Via, 1}},
		{"neither", Fib{{ten, Via, 1}, {tenOne, Blackhole, 0}}, 0x0b000000, Entry{}},
		{"a longer one that hasn't it", Fib{{ten, Via, 1}, {last, Via, 2}}, 0x0a000000, Entry{ten, Via, 1}},
		{"the middle one", Fib{{all, Here, 0}, {addr.Prefix{Addr: 0x0a010000, Len: 24}, Via, 3}, {ten, Via, 2}}, 0x0a010007, Entry{addr.Prefix{Addr: 0x0a010000, Len: 24}, Via, 3}},

		{"all addresses, the least", Fib{{all, Via, 4}}, 0, Entry{all, Via, 4}},
		{"all addresses, the greatest", Fib{{all, Via, 4}}, math.MaxUint32, Entry{all, Via, 4}},
		{"one address", Fib{{all, Via, 4}, {last, Here, 0}}, math.MaxUint32, Entry{last, Here, 0}},
		{"the one beside it", Fib{{all, Via, 4}, {last, Here, 0}}, math.MaxUint32 - 1, Entry{all, Via, 4}},
		{"the least one address", Fib{{nought, Here, 0}, {all, Via, 4}}, 0, Entry{nought, Here, 0}},

		{"the first of two", Fib{{ten, Via, 1}, {ten, Here, 2}}, 0x0a000000, Entry{ten, Via, 1}},
		{"the first of three", Fib{{ten, Blackhole, 3}, {ten, Via, 2}, {ten, Here, 9}}, 0x0a000000, Entry{ten, Blackhole, 3}},
		{"the first of two longer ones", Fib{{all, Here, 0}, {tenOne, Via, 1}, {ten, Here, 3}, {tenOne, Via, 2}}, 0x0a010000, Entry{tenOne, Via, 1}},
		{"the first of two of all", Fib{{all, Blackhole, 0}, {all, Here, 0}}, 7, Entry{all, Blackhole, 0}},

		{"NoRoute alone", Fib{{ten, NoRoute, 5}}, 0x0a000000, Entry{}},
		{"NoRoute longer", Fib{{ten, Via, 1}, {tenOne, NoRoute, 5}}, 0x0a010000, Entry{ten, Via, 1}},
		{"NoRoute longer, first", Fib{{tenOne, NoRoute, 5}, {ten, Via, 1}}, 0x0a010000, Entry{ten, Via, 1}},
		{"NoRoute ahead of one as long", Fib{{ten, NoRoute, 5}, {ten, Via, 1}, {ten, Via, 2}}, 0x0a010000, Entry{ten, Via, 1}},
		{"NoRoute of all, behind", Fib{{all, Via, 1}, {all, NoRoute, 5}}, 7, Entry{all, Via, 1}},

		{"Here", Fib{{ten, Here, 6}}, 0x0affffff, Entry{ten, Here, 6}},
		{"Blackhole", Fib{{ten, Blackhole, 6}}, 0x0affffff, Entry{ten, Blackhole, 6}},
		{"a How of no name", Fib{{all, Via, 1}, {ten, How(4), 6}}, 0x0affffff, Entry{ten, How(4), 6}},
		{"a How below 0", Fib{{ten, How(-1), -6}, {ten, Via, 1}}, 0x0affffff, Entry{ten, How(-1), -6}},
		{"any Next", Fib{{ten, Via, math.MinInt}}, 0x0affffff, Entry{ten, Via, math.MinInt}},

		{"a prefix that isn't Right", Fib{{addr.Prefix{Addr: 0x0a000001, Len: 8}, Via, 1}}, 0x0a000001, Entry{}},
		{"one that is too long", Fib{{addr.Prefix{Addr: 0x0a000001, Len: 33}, Via, 1}, {ten, Via, 2}}, 0x0a000001, Entry{ten, Via, 2}},
		{"one that is much too long", Fib{{addr.Prefix{Len: math.MaxInt}, Via, 1}}, 0, Entry{}},
		{"one below 0", Fib{{addr.Prefix{Len: -1}, Via, 1}}, 0, Entry{}},
		{"one far below 0", Fib{{addr.Prefix{Len: math.MinInt}, Via, 1}, {all, Via, 2}}, 0, Entry{all, Via, 2}},
	} {
		was := slices.Clone(c.f)
		for range 2 {
			if got := c.f.Lookup(c.a); got != c.want {
				t.Errorf("%s: Lookup(%#08x) = %v, want %v", c.what, c.a, got, c.want)
			}
		}
		if !slices.Equal(c.f, was) {
			t.Errorf("%s: Lookup turned what it is of: %v", c.what, c.f)
		}
	}
}

// leading is an address's n highest bits as a text of noughts and ones.
func leading(a uint32, n int) string { return fmt.Sprintf("%032b", a)[:n] }

// found is the answer to a Lookup, sought length by length.
func found(f Fib, a uint32) Entry {
	for n := 32; n >= 0; n-- {
		for _, e := range f {
			if e.How != NoRoute && e.Prefix.Len == n && leading(a, n) == leading(e.Prefix.Addr, n) {
				return e
			}
		}
	}
	return Entry{}
}

func TestLookupOfAnyEntries(t *testing.T) {
	random := rand.New(rand.NewSource(3))
	near := func() uint32 { return 0x0a000000 ^ 1<<random.Intn(32)&^uint32(random.Intn(2)<<31) }
	for range 500 {
		var f Fib
		for i := range random.Intn(40) {
			n := random.Intn(33)
			p := addr.Prefix{Addr: near() &^ uint32(1<<(32-n)-1), Len: n}
			f = append(f, Entry{p, How(random.Intn(4)), i})
		}
		for range 20 {
			a := near()
			if got, want := f.Lookup(a), found(f, a); got != want {
				t.Fatalf("%v: Lookup(%#08x) = %v, want %v", f, a, got, want)
			}
		}
		// Of one prefix the order stays, so no answer hangs on whether they are sorted.
		a := near()
		if got, want := f.Sorted().Lookup(a), f.Lookup(a); got != want {
			t.Fatalf("%v, sorted: Lookup(%#08x) = %v, want %v", f, a, got, want)
		}
	}
}
