package loop

import (
	"fmt"
	"math"
	"math/rand"
	"slices"
	"testing"

	"wayfarer/addr"
	"wayfarer/fib"
)

// The prefixes of these tests, by rising order.
var (
	all     = addr.Prefix{}
	nought  = addr.Prefix{Len: 32}
	ten     = addr.Prefix{Addr: 0x0a000000, Len: 8}
	tenLong = addr.Prefix{Addr: 0x0a000000, Len: 16}
	tenOne  = addr.Prefix{Addr: 0x0a010000, Len: 16}
	high    = addr.Prefix{Addr: 1 << 31, Len: 1}
	last    = addr.Prefix{Addr: math.MaxUint32, Len: 32}
)

func via(p addr.Prefix, next int) fib.Entry { return fib.Entry{Prefix: p, How: fib.Via, Next: next} }

func here(p addr.Prefix) fib.Entry { return fib.Entry{Prefix: p, How: fib.Here} }

func hole(p addr.Prefix) fib.Entry { return fib.Entry{Prefix: p, How: fib.Blackhole} }

func none(p addr.Prefix) fib.Entry { return fib.Entry{Prefix: p, How: fib.NoRoute, Next: 1} }

// chain is machines, each of which sends all to the next one; there is none behind the last one.
func chain(n int) []fib.Fib {
	var fibs []fib.Fib
	for i := range n {
		fibs = append(fibs, fib.Fib{via(all, i+1)})
	}
	return fibs
}

// ring is a chain whose last machine sends all to some machine again.
func ring(n, back int) []fib.Fib {
	fibs := chain(n)
	fibs[n-1][0].Next = back
	return fibs
}

// upTo is the numbers from one on, below another one.
func upTo(from, end int) []int {
	var list []int
	for i := from; i < end; i++ {
		list = append(list, i)
	}
	return list
}

func copied(fibs []fib.Fib) []fib.Fib {
	list := slices.Clone(fibs)
	for i, f := range list {
		list[i] = slices.Clone(f)
	}
	return list
}

func same(a, b []fib.Fib) bool {
	return slices.EqualFunc(a, b, func(x, y fib.Fib) bool { return slices.Equal(x, y) })
}

func TestWalk(t *testing.T) {
	two := []fib.Fib{{via(ten, 1), hole(tenOne)}, {via(ten, 2)}, {via(ten, 1), via(tenOne, 5)}}
	for _, c := range []struct {
		what string
		fibs []fib.Fib
		from int
		a    uint32
		path []int
		how  fib.How
		ok   bool
	}{
		{"no machines", nil, 0, 0, nil, fib.NoRoute, true},
		{"no such machine", two, 3, 0x0a000000, nil, fib.NoRoute, true},
		{"below 0", two, -1, 0x0a000000, nil, fib.NoRoute, true},
		{"far below 0", two, math.MinInt, 0x0a000000, nil, fib.NoRoute, true},
		{"far above", two, math.MaxInt, 0x0a000000, nil, fib.NoRoute, true},

		{"no entries", []fib.Fib{nil}, 0, 7, []int{0}, fib.NoRoute, true},
		{"no entry that has it", two, 1, 0x0b000000, []int{1}, fib.NoRoute, true},
		{"no entry at the next one", []fib.Fib{{via(all, 1)}, {here(ten)}}, 0, 0, []int{0, 1}, fib.NoRoute, true},
		{"NoRoute doesn't count", []fib.Fib{{via(all, 1), none(ten)}, {none(all)}}, 0, 0x0a000000, []int{0, 1}, fib.NoRoute, true},

		{"here at once", []fib.Fib{{here(ten)}}, 0, 0x0a000000, []int{0}, fib.Here, true},
		{"here, whatever its Next", []fib.Fib{{{Prefix: ten, How: fib.Here, Next: 0}}}, 0, 0x0a000000, []int{0}, fib.Here, true},
		{"here at the end", []fib.Fib{{here(all)}, {via(all, 0)}, {via(all, 1)}}, 2, 9, []int{2, 1, 0}, fib.Here, true},
		{"dropped at once", two, 0, 0x0a010000, []int{0}, fib.Blackhole, true},
		{"dropped at the next one", []fib.Fib{{via(all, 1)}, {hole(ten), via(all, 0)}}, 0, 0x0affffff, []int{0, 1}, fib.Blackhole, true},
		{"another How", []fib.Fib{{via(all, 1)}, {{Prefix: all, How: 9, Next: 0}}}, 0, 0, []int{0, 1}, 9, true},
		{"a How below 0", []fib.Fib{{{Prefix: all, How: -1, Next: 0}}}, 0, 0, []int{0}, -1, true},

		{"the next one isn't there", two, 1, 0x0a010000, []int{1, 2}, fib.NoRoute, true},
		{"the next one is the one behind the last", chain(3), 0, 0, []int{0, 1, 2}, fib.NoRoute, true},
		{"the next one is below 0", []fib.Fib{{via(all, -1)}}, 0, 0, []int{0}, fib.NoRoute, true},
		{"the next one is far below 0", []fib.Fib{{via(all, math.MinInt)}}, 0, 0, []int{0}, fib.NoRoute, true},
		{"the next one is far above", []fib.Fib{{via(all, math.MaxInt)}}, 0, 0, []int{0}, fib.NoRoute, true},

		{"the next one is itself", []fib.Fib{nil, {via(all, 1)}}, 1, 0, []int{1}, fib.Via, false},
		{"two in a ring", ring(2, 0), 0, 0, []int{0, 1}, fib.Via, false},
		{"two in a ring, from the other one", ring(2, 0), 1, 0, []int{1, 0}, fib.Via, false},
		{"a ring behind one", two, 0, 0x0a020000, []int{0, 1, 2}, fib.Via, false},
		{"a ring of eight", ring(8, 0), 5, 0, []int{5, 6, 7, 0, 1, 2, 3, 4}, fib.Via, false},
		{"a long way into a ring", ring(8, 7), 0, 0, []int{0, 1, 2, 3, 4, 5, 6, 7}, fib.Via, false},
		{"a ring of more machines", ring(20, 3), 1, 0, upTo(1, 20), fib.Via, false},
		{"a long way out", append(chain(30), fib.Fib{here(all)}), 4, 0, upTo(4, 31), fib.Here, true},

		{"by the longest one", []fib.Fib{{via(all, 0), via(ten, 1), via(tenOne, 2)}, nil, {here(high)}}, 0, 0x0a01ffff, []int{0, 2}, fib.NoRoute, true},
		{"by the first of two", []fib.Fib{{via(ten, 1), via(ten, 0)}, {hole(ten), via(ten, 0)}}, 0, 0x0a000000, []int{0, 1}, fib.Blackhole, true},
		{"by a shorter one behind a longer one", []fib.Fib{{via(tenOne, 1)}, {via(all, 2)}, {via(ten, 0)}}, 0, 0x0a010000, []int{0, 1, 2}, fib.Via, false},
	} {
		was := copied(c.fibs)
		path, how, ok := Walk(c.fibs, c.from, c.a)
		if !slices.Equal(path, c.path) || how != c.how || ok != c.ok {
			t.Errorf("%s: Walk tells %v, %d, %v, want %v, %d, %v", c.what, path, how, ok, c.path, c.how, c.ok)
		}
		clear(path)
		if again, _, _ := Walk(c.fibs, c.from, c.a); !slices.Equal(again, c.path) || !same(c.fibs, was) {
			t.Errorf("%s: Walk tells %v then", c.what, again)
		}
	}
}

func TestAddresses(t *testing.T) {
	for _, c := range []struct {
		what string
		fibs []fib.Fib
		want []uint32
	}{
		{"no machines", nil, nil},
		{"no entries", []fib.Fib{nil, {}}, nil},
		{"all", []fib.Fib{{here(all)}}, []uint32{0, math.MaxUint32}},
		{"one address", []fib.Fib{{here(nought)}, {via(last, 0)}}, []uint32{0, math.MaxUint32}},
		{"half of them", []fib.Fib{{here(high)}}, []uint32{1 << 31, math.MaxUint32}},
		{"two addresses", []fib.Fib{{here(addr.Prefix{Addr: 6, Len: 31})}}, []uint32{6, 7}},
		{"one within another one", []fib.Fib{{via(ten, 1)}, {via(tenOne, 0)}}, []uint32{0x0a000000, 0x0a010000, 0x0a01ffff, 0x0affffff}},
		{"they begin alike", []fib.Fib{{via(ten, 1), via(tenLong, 1)}}, []uint32{0x0a000000, 0x0a00ffff, 0x0affffff}},
		{"twice", []fib.Fib{{via(ten, 1), hole(ten)}, {here(ten)}}, []uint32{0x0a000000, 0x0affffff}},
		{"side by side", []fib.Fib{{via(tenOne, 1)}, {via(tenLong, 1)}}, []uint32{0x0a000000, 0x0a00ffff, 0x0a010000, 0x0a01ffff}},
		{"any How", []fib.Fib{{none(ten), here(nought), {Prefix: last, How: 7}, {Prefix: high, How: -1}}}, []uint32{0, 0x0a000000, 0x0affffff, 1 << 31, math.MaxUint32}},
		{"by rising numbers, not as they stand", []fib.Fib{{via(last, 0), via(ten, 0)}, {via(nought, 0), via(tenOne, 0)}}, []uint32{0, 0x0a000000, 0x0a010000, 0x0a01ffff, 0x0affffff, math.MaxUint32}},
		{"a prefix that is none", []fib.Fib{{here(addr.Prefix{Addr: 1}), here(addr.Prefix{Len: -1}), here(addr.Prefix{Len: 33}), here(addr.Prefix{Len: math.MinInt}), here(nought)}}, []uint32{0}},
	} {
		was := copied(c.fibs)
		got := Addresses(c.fibs)
		if !slices.Equal(got, c.want) {
			t.Errorf("%s: Addresses tells %x, want %x", c.what, got, c.want)
		}
		clear(got)
		if again := Addresses(c.fibs); !slices.Equal(again, c.want) || !same(c.fibs, was) {
			t.Errorf("%s: Addresses tells %x then", c.what, again)
		}
	}
}

func TestFind(t *testing.T) {
	for _, c := range []struct {
		what string
		fibs []fib.Fib
		from int
		a    uint32
		ok   bool
	}{
		{"no machines", nil, 0, 0, false},
		{"no entries", []fib.Fib{nil, nil}, 0, 0, false},
		{"nothing in a ring", []fib.Fib{{via(all, 1)}, {via(all, 2), hole(ten)}, {here(all)}}, 0, 0, false},
		{"the next one isn't there", chain(8), 0, 0, false},
		{"the example", []fib.Fib{{via(ten, 1)}, {via(ten, 0)}}, 0, 0x0a000000, true},
		{"one in a ring", []fib.Fib{{hole(ten)}, {via(ten, 1)}}, 1, 0x0a000000, true},
		{"into a ring", []fib.Fib{{via(ten, 1)}, {via(ten, 1)}}, 0, 0x0a000000, true},
		{"not the first address", []fib.Fib{{here(nought), via(high, 1)}, {here(nought), via(high, 0)}}, 0, 1 << 31, true},
		{"the greatest address alone", []fib.Fib{{via(ten, 1), hole(tenLong)}, {via(ten, 0)}}, 0, 0x0affffff, true},
		{"the least address alone", []fib.Fib{{via(ten, 1), hole(addr.Prefix{Addr: 0x0a800000, Len: 9})}, {via(ten, 0)}}, 0, 0x0a000000, true},
		{"the first address ahead of the first machine", []fib.Fib{{via(high, 0)}, nil, {via(ten, 2)}}, 2, 0x0a000000, true},
		{"the first machine of that address", []fib.Fib{{hole(ten)}, {via(ten, 0)}, {via(ten, 3)}, {via(ten, 2)}}, 2, 0x0a000000, true},
		{"an address behind another one's prefix", []fib.Fib{{via(all, 1)}, {via(all, 0), hole(nought), hole(last), hole(ten)}, {here(tenOne), here(high)}}, 0, 1 << 31, true},
		{"between the ends alone", []fib.Fib{{via(all, 1)}, {via(all, 0), hole(nought), hole(last)}}, 0, 0, false},
	} {
		was := copied(c.fibs)
		from, a, ok := Find(c.fibs)
		if from != c.from || a != c.a || ok != c.ok || !same(c.fibs, was) {
			t.Errorf("%s: Find tells %d, %#x, %v, want %d, %#x, %v", c.what, from, a, ok, c.from, c.a, c.ok)
		}
	}
}

func TestAround(t *testing.T) {
	tail := []fib.Fib{{via(ten, 1)}, {via(ten, 2)}, {via(ten, 1)}}
	for _, c := range []struct {
		what string
		fibs []fib.Fib
		p    addr.Prefix
		want bool
	}{
		{"no machines", nil, ten, false},
		{"no entries", []fib.Fib{nil, nil}, ten, false},
		{"one by itself", []fib.Fib{{via(ten, 0)}}, ten, true},
		{"the only one, and no next one", []fib.Fib{{via(ten, 1)}}, ten, false},
		{"two", ring(2, 0), all, true},
		{"eight", ring(8, 0), all, true},
		{"into a ring", tail, ten, true},
		{"the last one by itself", ring(8, 7), all, true},
		{"a ring that leaves some out", []fib.Fib{{via(ten, 9)}, nil, {via(ten, 3)}, {via(ten, 2)}}, ten, true},
		{"as many as there are, and out", chain(3), all, false},
		{"eight, and out", chain(8), all, false},
		{"eight, and below 0", ring(8, -1), all, false},
		{"far out", []fib.Fib{{via(ten, math.MaxInt)}, {via(ten, math.MinInt)}}, ten, false},
		{"to one that has none", []fib.Fib{{via(ten, 1)}, {via(ten, 2)}, {via(all, 0)}}, ten, false},
		{"to one whose own it is", []fib.Fib{{via(ten, 1)}, {via(ten, 2)}, {here(ten)}}, ten, false},
		{"another prefix that has it", []fib.Fib{{via(ten, 1)}, {via(ten, 0)}}, tenLong, false},
		{"another prefix that it has", []fib.Fib{{via(ten, 1)}, {via(ten, 0)}}, all, false},
		{"a longer one makes no difference", []fib.Fib{{via(ten, 1), hole(tenLong), here(tenOne)}, {via(ten, 0)}}, ten, true},
		{"a prefix that is none", []fib.Fib{{via(ten, 1)}, {via(ten, 0)}}, addr.Prefix{Addr: 0x0a000001, Len: 8}, false},

		{"the first that is Via, behind another How", []fib.Fib{{hole(ten), via(ten, 1)}, {here(ten), none(ten), via(ten, 0)}}, ten, true},
		{"the first of two, in a ring", []fib.Fib{{via(ten, 1), via(ten, 2)}, {via(ten, 0)}, {here(ten)}}, ten, true},
		{"the first of two, out", []fib.Fib{{via(ten, 2), via(ten, 1)}, {via(ten, 0)}, {here(ten)}}, ten, false},
		{"other Hows alone", []fib.Fib{{{Prefix: ten, How: fib.Here, Next: 1}}, {{Prefix: ten, How: fib.Blackhole}}}, ten, false},
		{"Hows of no name", []fib.Fib{{{Prefix: ten, How: 4}}, {{Prefix: ten, How: -2}}}, ten, false},
	} {
		was := copied(c.fibs)
		if got := Around(c.fibs, c.p); got != c.want || !same(c.fibs, was) {
			t.Errorf("%s: Around tells %v", c.what, got)
		}
	}
}

// walked is a Walk of as many steps as there are machines, and one: then it is cut at the first machine that comes again.
func walked(fibs []fib.Fib, from int, a uint32) ([]int, fib.How, bool) {
	var path []int
	how := fib.NoRoute
	at := from
	for range len(fibs) + 1 {
		if at < 0 || at >= len(fibs) {
			how = fib.NoRoute
			break
		}
		path = append(path, at)
		e := fibs[at].Lookup(a)
		how = e.How
		if how != fib.Via {
			break
		}
		at = e.Next
	}
	for i := range path {
		if slices.Contains(path[:i], path[i]) {
			return path[:i], fib.Via, false
		}
	}
	return path, how, true
}

// ends is every address with which a prefix of the entries begins or ends.
func ends(fibs []fib.Fib) []uint32 {
	found := map[uint32]bool{}
	for _, f := range fibs {
		for _, e := range f {
			found[e.Prefix.Addr] = true
			found[uint32(uint64(e.Prefix.Addr)+1<<(32-e.Prefix.Len)-1)] = true
		}
	}
	var list []uint32
	for a := range found {
		list = append(list, a)
	}
	slices.Sort(list)
	return list
}

// circles is Around, told by leaving out, again and again, each machine that doesn't lead to one that is left.
func circles(fibs []fib.Fib, p addr.Prefix) bool {
	left := map[int]int{}
	for i, f := range fibs {
		for _, e := range slices.Backward(f) {
			if e.Prefix == p && e.How == fib.Via {
				left[i] = e.Next
			}
		}
	}
	for was := -1; was != len(left); {
		was = len(left)
		for i, next := range left {
			if _, ok := left[next]; !ok {
				delete(left, i)
			}
		}
	}
	return len(left) > 0
}

func TestRandomEntries(t *testing.T) {
	prefixes := []addr.Prefix{all, nought, ten, tenLong, tenOne, high, last}
	hows := []fib.How{fib.Via, fib.Via, fib.Via, fib.Via, fib.Via, fib.Here, fib.Blackhole, fib.NoRoute, 5}
	g := rand.New(rand.NewSource(1))
	rings, around := 0, 0
	for i := range 4000 {
		fibs := make([]fib.Fib, g.Intn(9))
		for k := range fibs {
			for range g.Intn(6) {
				e := fib.Entry{Prefix: prefixes[g.Intn(len(prefixes))], How: hows[g.Intn(len(hows))], Next: g.Intn(len(fibs)+2) - 1}
				fibs[k] = append(fibs[k], e)
			}
		}
		what := fmt.Sprintf("%d: %v", i, fibs)
		list := ends(fibs)
		if got := Addresses(fibs); !slices.Equal(got, list) {
			t.Fatalf("%s: Addresses tells %x, want %x", what, got, list)
		}
		if checkWalks(t, what, fibs, list) {
			rings++
		}
		for _, p := range prefixes {
			want := circles(fibs, p)
			if got := Around(fibs, p); got != want {
				t.Fatalf("%s: Around of %v tells %v", what, p, got)
			}
			if want {
				around++
			}
		}
	}
	if rings < 100 || around < 100 {
		t.Errorf("%d and %d rings alone", rings, around)
	}
}

// checkWalks holds each Walk to these addresses against walked, and Find against the first one of a ring; it tells whether there is one.
func checkWalks(t *testing.T, what string, fibs []fib.Fib, list []uint32) bool {
	t.Helper()
	first, at, found := 0, uint32(0), false
	for _, a := range list {
		for from := -1; from <= len(fibs); from++ {
			path, how, ok := Walk(fibs, from, a)
			wantPath, wantHow, want := walked(fibs, from, a)
			if !slices.Equal(path, wantPath) || how != wantHow || ok != want {
				t.Fatalf("%s: Walk(%d, %#x) tells %v, %d, %v, want %v, %d, %v", what, from, a, path, how, ok, wantPath, wantHow, want)
			}
			if !want && !found {
				first, at, found = from, a, true
			}
		}
	}
	if from, a, ok := Find(fibs); from != first || a != at || ok != found {
		t.Fatalf("%s: Find tells %d, %#x, %v, want %d, %#x, %v", what, from, a, ok, first, at, found)
	}
	return found
}
