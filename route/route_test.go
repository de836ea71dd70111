package route

import (
	"fmt"
	"math"
	"math/rand"
	"slices"
	"testing"

	"wayfarer/addr"
	"wayfarer/api"
	"wayfarer/dist"
)

// The prefixes of these tests, by rising order.
var (
	odd     = addr.Prefix{Len: -1}
	all     = addr.Prefix{}
	low     = addr.Prefix{Len: 32}
	long    = addr.Prefix{Len: 33}
	uneven  = addr.Prefix{Addr: 1, Len: 8}
	ten     = addr.Prefix{Addr: 0x0a000000, Len: 8}
	tenLong = addr.Prefix{Addr: 0x0a000000, Len: 16}
	tenOne  = addr.Prefix{Addr: 0x0a010000, Len: 16}
	high    = addr.Prefix{Addr: 1 << 31, Len: 1}
	last    = addr.Prefix{Addr: math.MaxUint32, Len: 32}
)

// The Froms of these tests: those that Pick takes, and such as it never does.
var froms = []int{math.MinInt, -1, 0, 1, 2, 7, 8, 9, math.MaxInt}

// set is a way, and to what.
type set struct {
	p addr.Prefix
	r Route
}

func way(from int, metric uint16, expiry int64) Route {
	return Route{From: from, ID: 40, Dist: dist.Dist{Seq: 3, Metric: metric}, Expiry: expiry}
}

// of is a Table of some ways.
func of(list ...set) *Table {
	t := New()
	for _, s := range list {
		t.Set(s.p, s.r)
	}
	return t
}

func prefixes(x *Table) []addr.Prefix { return slices.Collect(x.Prefixes()) }

// has says so if a Table hasn't just these ways, by its calls.
func has(t *testing.T, what string, x *Table, list ...set) {
	t.Helper()
	if n := x.Len(); n != len(list) {
		t.Errorf("%s: Len = %d, want %d", what, n, len(list))
	}
	var want []addr.Prefix
	for _, s := range list {
		if r, ok := x.Get(s.p, s.r.From); r != s.r || !ok {
			t.Errorf("%s: Get(%v, %d) = %v, %v, want %v", what, s.p, s.r.From, r, ok, s.r)
		}
		want = append(want, s.p)
	}
	slices.SortFunc(want, addr.Prefix.Compare)
	want = slices.Compact(want)
	if got := prefixes(x); !slices.Equal(got, want) {
		t.Errorf("%s: Prefixes yields %v, want %v", what, got, want)
	}
}

// hasnt says so if a Table has a way of a neighbour to a prefix.
func hasnt(t *testing.T, what string, x *Table, p addr.Prefix, from int) {
	t.Helper()
	if r, ok := x.Get(p, from); ok || r != (Route{}) {
		t.Errorf("%s: Get(%v, %d) = %v, %v", what, p, from, r, ok)
	}
}

func free(int) int { return 1 }

func every(Route) bool { return true }

func TestNew(t *testing.T) {
	for what, x := range map[string]*Table{"New": New(), "a zero Table": {}} {
		has(t, what, x)
		for _, from := range froms {
			hasnt(t, what, x, ten, from)
			if x.Drop(ten, from) {
				t.Errorf("%s: Drop(%d) = true", what, from)
			}
			x.DropAll(from)
		}
		x.Expire(math.MinInt64)
		x.Expire(math.MaxInt64)
		if r, ok := x.Pick(ten, free, every); ok || r != (Route{}) {
			t.Errorf("%s: Pick = %v, %v", what, r, ok)
		}
		has(t, what, x)
		x.Set(ten, way(1, 2, 3))
		has(t, what+", Set", x, set{ten, way(1, 2, 3)})
	}
}

func TestTablesAreApart(t *testing.T) {
	x, y := New(), New()
	x.Set(ten, way(1, 2, 3))
	has(t, "the other", y)
}

func TestSet(t *testing.T) {
	x := New()
	x.Set(ten, way(1, 4, 5))
	has(t, "one", x, set{ten, way(1, 4, 5)})
	for _, r := range []Route{
		way(1, 4, 5), way(1, 9, 5), way(1, 3, 5), way(1, 3, 1),
		{From: 1, ID: 41, Dist: dist.Dist{Seq: 3, Metric: 3}, Expiry: 1},
		{From: 1, Dist: dist.Dist{Seq: 1, Metric: api.Inf}},
		{From: 1},
		{From: 1, ID: math.MaxUint32, Dist: dist.Dist{Seq: math.MaxUint32, Metric: api.Inf}, Expiry: math.MinInt64},
	} {
		x.Set(ten, r)
		has(t, fmt.Sprintf("behind %v", r), x, set{ten, r})
	}
}

func TestSetOfOtherPrefixesAndNeighbours(t *testing.T) {
	x := New()
	var list []set
	for i, p := range []addr.Prefix{tenOne, last, odd, all, uneven, tenLong, low, high, long, ten} {
		for k, from := range froms {
			s := set{p, Route{from, uint32(k), dist.Dist{Seq: uint32(i), Metric: uint16(k)}, int64(i * k)}}
			hasnt(t, "ahead of Set", x, p, from)
			x.Set(s.p, s.r)
			list = append(list, s)
		}
		has(t, fmt.Sprintf("behind %v", p), x, list...)
	}
	list[3].r.Expiry = 99
	x.Set(list[3].p, list[3].r)
	has(t, "one anew", x, list...)
	for _, p := range []addr.Prefix{{Addr: 0x0a000000, Len: 9}, {Addr: 0x0a000000, Len: 32}, {Addr: 0x0a000000}, {Addr: 0x0a010000, Len: 8}, {Len: 8}} {
		hasnt(t, "another prefix", x, p, 1)
	}
	for _, from := range []int{-2, 3, 10, 257, 1<<32 + 1, math.MaxInt - 1, math.MinInt + 1} {
		hasnt(t, "another neighbour", x, ten, from)
	}
}

func TestDrop(t *testing.T) {
	for _, from := range froms {
		x := of(set{ten, way(from, 1, 1)}, set{ten, way(3, 2, 2)}, set{tenLong, way(from, 3, 3)})
		what := fmt.Sprintf("Drop(%d)", from)
		for _, p := range []addr.Prefix{all, tenOne, odd} {
			if x.Drop(p, from) {
				t.Errorf("%s of %v = true", what, p)
			}
		}
		if x.Drop(ten, 4) || x.Drop(tenLong, 3) {
			t.Errorf("%s: Drop of another neighbour = true", what)
		}
		has(t, what+" of none", x, set{ten, way(from, 1, 1)}, set{ten, way(3, 2, 2)}, set{tenLong, way(from, 3, 3)})
		for i := range 3 {
			if got := x.Drop(ten, from); got != (i == 0) {
				t.Errorf("%s, %d: %v", what, i, got)
			}
			has(t, what, x, set{ten, way(3, 2, 2)}, set{tenLong, way(from, 3, 3)})
			hasnt(t, what, x, ten, from)
		}
		if !x.Drop(tenLong, from) {
			t.Errorf("%s of the other prefix = false", what)
		}
		has(t, what+", both", x, set{ten, way(3, 2, 2)})
		x.Set(ten, way(from, 5, 5))
		has(t, what+", set again", x, set{ten, way(3, 2, 2)}, set{ten, way(from, 5, 5)})
	}
}

func TestDropOfAZeroRoute(t *testing.T) {
	x := of(set{all, Route{}})
	has(t, "the zero one", x, set{all, Route{}})
	if !x.Drop(all, 0) || x.Drop(all, 0) {
		t.Error("Drop of the zero one")
	}
	has(t, "dropped", x)
}

func TestDropAll(t *testing.T) {
	for _, gone := range froms {
		var list, left []set
		for i, p := range []addr.Prefix{odd, all, low, ten, tenLong, last} {
			for _, from := range froms {
				s := set{p, way(from, uint16(i), int64(i))}
				list = append(list, s)
				if from != gone {
					left = append(left, s)
				}
			}
		}
		x := of(list...)
		for _, from := range []int{-2, 3, 10, 1<<32 + 1} {
			x.DropAll(from)
		}
		has(t, "DropAll of none", x, list...)
		for range 2 {
			x.DropAll(gone)
			has(t, fmt.Sprintf("DropAll(%d)", gone), x, left...)
			hasnt(t, "DropAll", x, ten, gone)
		}
	}
}

func TestExpire(t *testing.T) {
	times := []int64{math.MinInt64, math.MinInt64 + 1, -1, 0, 1, 4, 5, 6, math.MaxInt64 - 1, math.MaxInt64}
	for _, now := range append(times, -7, 3, 1000) {
		var list, left []set
		for i, p := range []addr.Prefix{all, ten, tenLong} {
			for k, till := range times {
				s := set{p, way(k+i, 1, till)}
				list = append(list, s)
				if till > now {
					left = append(left, s)
				}
			}
		}
		x := of(list...)
		for range 2 {
			x.Expire(now)
			has(t, fmt.Sprintf("Expire(%d)", now), x, left...)
		}
		for _, s := range list {
			if s.r.Expiry <= now {
				hasnt(t, fmt.Sprintf("Expire(%d)", now), x, s.p, s.r.From)
			}
		}
	}
}

func TestExpireByTheWayThatWasSetLast(t *testing.T) {
	x := of(set{ten, way(1, 1, 3)}, set{ten, way(1, 1, 5)}, set{all, way(1, 1, 5)}, set{all, way(1, 1, 3)})
	x.Expire(4)
	has(t, "Expire(4)", x, set{ten, way(1, 1, 5)})
	// Time may be told again, or go back.
	x.Expire(2)
	has(t, "Expire(2)", x, set{ten, way(1, 1, 5)})
}

func TestPrefixesInOrderEachOnce(t *testing.T) {
	want := []addr.Prefix{odd, all, low, long, uneven, ten, tenLong, tenOne, high, last}
	random := rand.New(rand.NewSource(4))
	for range 50 {
		x := New()
		for _, i := range random.Perm(len(want) * len(froms)) {
			// Each prefix has the way of the first From, at least.
			if k := i % len(froms); k == 0 || random.Intn(2) == 0 {
				x.Set(want[i/len(froms)], way(froms[k], 1, 1))
			}
		}
		for range 2 {
			if got := prefixes(x); !slices.Equal(got, want) {
				t.Fatalf("Prefixes yields %v, want %v", got, want)
			}
		}
	}
}

func TestPrefixesAgainAndLeftEarly(t *testing.T) {
	want := []addr.Prefix{all, ten, tenOne}
	x := of(set{tenOne, way(1, 1, 1)}, set{ten, way(2, 1, 1)}, set{all, way(3, 1, 1)}, set{ten, way(1, 1, 1)})
	seq := x.Prefixes()
	for n := range 4 {
		var got []addr.Prefix
		for p := range seq {
			if len(got) == n {
				break
			}
			got = append(got, p)
		}
		if !slices.Equal(got, want[:n]) {
			t.Errorf("%d of them: %v", n, got)
		}
		if got := slices.Collect(seq); !slices.Equal(got, want) {
			t.Errorf("all, behind %d: %v", n, got)
		}
	}
	calls := 0
	seq(func(addr.Prefix) bool { calls++; return false })
	if calls != 1 {
		t.Errorf("left at once: yielded %d times", calls)
	}
}

// What was answered is turned by no call.
func TestPrefixesStay(t *testing.T) {
	want := []addr.Prefix{all, ten, tenOne}
	x := of(set{tenOne, way(1, 1, 1)}, set{ten, way(2, 1, 1)}, set{all, way(3, 1, 9)})
	seq := x.Prefixes()
	var got []addr.Prefix
	for p := range seq {
		got = append(got, p)
		x.Drop(tenOne, 1)
		x.DropAll(2)
	}
	if !slices.Equal(got, want) {
		t.Errorf("dropped meanwhile: %v", got)
	}
	x.Set(last, way(1, 1, 9))
	x.Expire(5)
	if got := slices.Collect(seq); !slices.Equal(got, want) {
		t.Errorf("gone through again: %v", got)
	}
	if got := prefixes(x); !slices.Equal(got, []addr.Prefix{all, last}) {
		t.Errorf("called again: %v", got)
	}
}

// costs is what links cost; 0: of one that isn't named there.
type costs map[int]int

func (c costs) of(from int) int { return c[from] }

// picks says so if a Table's Pick of ten doesn't tell just this way; a zero want: none.
func picks(t *testing.T, what string, x *Table, c costs, may func(Route) bool, want Route) {
	t.Helper()
	if r, ok := x.Pick(ten, c.of, may); r != want || ok != (want != (Route{})) {
		t.Errorf("%s: Pick = %v, %v, want %v", what, r, ok, want)
	}
}

func TestPickTheNearest(t *testing.T) {
	newer := Route{From: 3, ID: 41, Dist: dist.Dist{Seq: 9, Metric: 8}, Expiry: 7}
	for _, c := range []struct {
		what  string
		costs costs
		ways  []Route
		want  Route
	}{
		{"one", costs{1: 1}, []Route{way(1, 4, 5)}, way(1, 4, 5)},
		{"the chapter's", costs{1: 3, 2: 1}, []Route{way(1, 4, 5), way(2, 5, 6)}, way(2, 5, 6)},
		{"the lesser one", costs{1: 1, 2: 3}, []Route{way(1, 5, 5), way(2, 4, 6)}, way(1, 5, 5)},
		{"not the nearer neighbour", costs{1: 1, 2: 9}, []Route{way(1, 50, 5), way(2, 4, 6)}, way(2, 4, 6)},
		{"not the neighbour that is nearer to it", costs{1: 9, 2: 1}, []Route{way(1, 4, 5), way(2, 5, 6)}, way(2, 5, 6)},
		{"of three the last", costs{1: 3, 2: 2, 3: 1}, []Route{way(1, 4, 5), way(2, 4, 6), way(3, 4, 6)}, way(3, 4, 6)},
		{"of three the middle one", costs{1: 3, 2: 1, 3: 2}, []Route{way(1, 4, 5), way(2, 4, 6), way(3, 4, 6)}, way(2, 4, 6)},
		{"not the newest", costs{1: 2, 3: 1}, []Route{way(1, 6, 5), newer}, way(1, 6, 5)},
		{"though it is newer", costs{1: 4, 3: 1}, []Route{way(1, 6, 5), newer}, newer},
		{"as near and newer, by a greater From", costs{1: 3, 3: 1}, []Route{way(1, 6, 5), newer}, way(1, 6, 5)},
		{"as near and older, by a greater From", costs{3: 1, 4: 1}, []Route{newer, way(4, 8, 5)}, newer},
		{"not the one that expires last", costs{1: 1, 2: 1}, []Route{way(1, 4, 1), way(2, 4, 9)}, way(1, 4, 1)},
		{"as near: 1 and 2", costs{1: 2, 2: 1}, []Route{way(2, 5, 6), way(1, 4, 5)}, way(1, 4, 5)},
		{"as near: 2, 7 and 8", costs{8: 1, 2: 3, 7: 2}, []Route{way(8, 6, 6), way(7, 5, 6), way(2, 4, 6)}, way(2, 4, 6)},
		{"as near: 2 and 7, behind 1", costs{1: 9, 2: 3, 7: 2}, []Route{way(7, 5, 6), way(2, 4, 6), way(1, 4, 6)}, way(2, 4, 6)},
	} {
		x := New()
		for _, r := range c.ways {
			x.Set(ten, r)
			x.Set(tenLong, Route{From: r.From})
			x.Set(all, Route{From: r.From})
		}
		for range 20 {
			picks(t, c.what, x, c.costs, every, c.want)
		}
		slices.Reverse(c.ways)
		x = New()
		for _, r := range c.ways {
			x.Set(ten, r)
		}
		picks(t, c.what+", set the other way round", x, c.costs, every, c.want)
	}
}

func TestPickByFrom(t *testing.T) {
	open := func(from int) bool { return from >= 0 && from <= 8 }
	for _, from := range append(froms, 3, 4, 5, 6, 10, 256, 1<<32) {
		x := of(set{ten, way(from, 4, 5)})
		want := Route{}
		if open(from) {
			want = way(from, 4, 5)
		}
		picks(t, fmt.Sprintf("of %d", from), x, costs{from: 1}, every, want)
		// Where it is the nearest, but another one is open.
		x.Set(ten, way(5, 9, 6))
		if !open(from) || from == 5 {
			want = way(5, 9, 6)
		}
		picks(t, fmt.Sprintf("of %d and 5", from), x, costs{from: 1, 5: 1}, every, want)
	}
}

func TestPickByCost(t *testing.T) {
	for _, c := range []struct {
		cost   int
		metric uint16
		want   bool
	}{
		{1, 0, true}, {1, 5, true}, {1000, 5, true}, {1001, 5, true}, {math.MaxInt, 5, true},
		{0, 5, false}, {-1, 5, false}, {-1000, 5, false}, {math.MinInt, 5, false}, {0, 0, false},
		// At and around Inf.
		{1, 65533, true}, {1, 65534, false}, {1, 65535, false}, {534, 65000, true}, {535, 65000, false}, {536, 65000, false},
		{1000, 64534, true}, {1000, 64535, false}, {1001, 64534, true}, {5000, 64534, true}, {math.MaxInt, 64534, true},
		{math.MaxInt, 64535, false}, {65536, 64534, true}, {65537, 65534, false}, {1000, 65535, false}, {999, 64536, false},
	} {
		what := fmt.Sprintf("at %d over %d", c.metric, c.cost)
		x := of(set{ten, way(2, c.metric, 5)})
		want := Route{}
		if c.want {
			want = way(2, c.metric, 5)
		}
		picks(t, what, x, costs{2: c.cost}, every, want)
		// One that can't be taken is no hindrance to another.
		x.Set(ten, way(4, 65533, 5))
		if !c.want || int(c.metric)+min(c.cost, 1000) > 65534 {
			want = way(4, 65533, 5)
		}
		picks(t, what+", and another", x, costs{2: c.cost, 4: 1}, every, want)
	}
}

func TestPickWhereCostsAreBounded(t *testing.T) {
	x := of(set{ten, way(1, 5, 5)}, set{ten, way(2, 5, 5)})
	// 5,000 counts as 1,000: so both are as near.
	picks(t, "5,000 and 1,000", x, costs{1: 5000, 2: 1000}, every, way(1, 5, 5))
	picks(t, "1,001 and 999", x, costs{1: 1001, 2: 999}, every, way(2, 5, 5))
}

func TestPickByWhatMayBe(t *testing.T) {
	a := Route{From: 1, ID: 11, Dist: dist.Dist{Seq: 5, Metric: 2}, Expiry: 21}
	b := Route{From: 2, ID: 12, Dist: dist.Dist{Seq: 6, Metric: 3}, Expiry: 22}
	c := Route{From: 8, ID: 13, Dist: dist.Dist{Seq: 7, Metric: 4}, Expiry: 23}
	x := of(set{ten, c}, set{ten, b}, set{ten, a})
	over := costs{1: 1, 2: 1, 8: 1}
	picks(t, "any", x, over, every, a)
	picks(t, "none", x, over, func(Route) bool { return false }, Route{})
	picks(t, "not the nearest", x, over, func(r Route) bool { return r != a }, b)
	picks(t, "by its Seq", x, over, func(r Route) bool { return r.Dist.Seq > 6 }, c)
	for _, want := range []Route{a, b, c} {
		// By all of its fields: may is told the way as it was set.
		picks(t, "one alone", x, over, func(r Route) bool { return r == want }, want)
		picks(t, "one alone, without a link", x, costs{3: 1}, func(r Route) bool { return r == want }, Route{})
	}
	has(t, "behind Picks", x, set{ten, a}, set{ten, b}, set{ten, c})
}

func TestPickOfWaysToThatPrefixAlone(t *testing.T) {
	x := of(set{all, way(1, 1, 1)}, set{tenLong, way(2, 1, 1)}, set{tenOne, way(3, 1, 1)}, set{addr.Prefix{Addr: 0x0a000000, Len: 7}, way(4, 1, 1)})
	if r, ok := x.Pick(ten, free, every); ok || r != (Route{}) {
		t.Errorf("of other prefixes: %v, %v", r, ok)
	}
	x.Set(ten, way(5, 60000, 1))
	if r, ok := x.Pick(ten, free, every); !ok || r != way(5, 60000, 1) {
		t.Errorf("of that one: %v, %v", r, ok)
	}
	x.Set(odd, way(6, 1, 1))
	if r, ok := x.Pick(odd, free, every); !ok || r != way(6, 1, 1) {
		t.Errorf("of one that isn't Right: %v, %v", r, ok)
	}
}

func TestPickOfWhatIsThereStill(t *testing.T) {
	x := of(set{ten, way(1, 1, 3)}, set{ten, way(2, 2, 9)}, set{ten, way(3, 3, 9)}, set{ten, way(4, 4, 9)})
	over := costs{1: 1, 2: 1, 3: 1, 4: 1}
	picks(t, "all", x, over, every, way(1, 1, 3))
	x.Expire(3)
	picks(t, "behind Expire", x, over, every, way(2, 2, 9))
	x.Drop(ten, 2)
	picks(t, "behind Drop", x, over, every, way(3, 3, 9))
	x.Set(ten, way(3, 7, 9))
	picks(t, "behind Set", x, over, every, way(4, 4, 9))
	x.DropAll(4)
	picks(t, "behind DropAll", x, over, every, way(3, 7, 9))
}

// model is ways as a list, in the order in which they were set.
type model []set

func (m *model) forget(gone func(s set) bool) bool {
	n := len(*m)
	*m = slices.DeleteFunc(*m, gone)
	return len(*m) < n
}

func (m *model) set(p addr.Prefix, r Route) {
	m.forget(func(s set) bool { return s.p == p && s.r.From == r.From })
	*m = append(*m, set{p, r})
}

func (m model) pick(p addr.Prefix, cost func(int) int, may func(Route) bool) (Route, bool) {
	best, least := Route{}, 65535
	for from := 8; from >= 0; from-- {
		for _, s := range m {
			if s.p != p || s.r.From != from || cost(from) <= 0 || !may(s.r) {
				continue
			}
			if far := int(s.r.Dist.Metric) + min(cost(from), 1000); far < 65535 && far <= least {
				best, least = s.r, far
			}
		}
	}
	return best, least < 65535
}

func TestCallsInAnyOrder(t *testing.T) {
	random := rand.New(rand.NewSource(5))
	few := []addr.Prefix{all, ten, tenLong, last}
	metrics := []uint16{0, 1, 2, 3, 500, 64535, 65533, 65534, 65535}
	for range 100 {
		x, m := New(), model{}
		for range 100 {
			p, from, now := few[random.Intn(len(few))], random.Intn(12)-1, int64(random.Intn(20)-2)
			switch random.Intn(12) {
			case 0:
				want := m.forget(func(s set) bool { return s.p == p && s.r.From == from })
				if got := x.Drop(p, from); got != want {
					t.Fatalf("Drop(%v, %d) = %v, want %v", p, from, got, want)
				}
			case 1:
				x.DropAll(from)
				m.forget(func(s set) bool { return s.r.From == from })
			case 2:
				x.Expire(now)
				m.forget(func(s set) bool { return s.r.Expiry <= now })
			default:
				d := dist.Dist{Seq: random.Uint32(), Metric: metrics[random.Intn(len(metrics))]}
				r := Route{from, random.Uint32(), d, now + 8}
				x.Set(p, r)
				m.set(p, r)
			}
			has(t, "in any order", x, m...)
			link := []int{0, 1, 2, 3, 4, 1000, 1001, -1}
			cost := func(from int) int { return link[(from*5+int(now)+2)&7] }
			may := func(r Route) bool { return r.ID%4 != 0 }
			got, ok := x.Pick(p, cost, may)
			if want, is := m.pick(p, cost, may); got != want || ok != is {
				t.Fatalf("%v: Pick(%v) = %v, %v, want %v, %v", m, p, got, ok, want, is)
			}
		}
	}
}
