package state

import (
	"fmt"
	"math"
	"math/rand"
	"slices"
	"testing"

	"wayfarer/addr"
	"wayfarer/api"
	"wayfarer/dist"
	"wayfarer/rec"
)

// The prefixes of these tests, by rising order.
var (
	all     = addr.Prefix{}
	low     = addr.Prefix{Len: 32}
	ten     = addr.Prefix{Addr: 0x0a000000, Len: 8}
	tenLong = addr.Prefix{Addr: 0x0a000000, Len: 16}
	tenOne  = addr.Prefix{Addr: 0x0a010000, Len: 16}
	high    = addr.Prefix{Addr: 1 << 31, Len: 1}
	last    = addr.Prefix{Addr: math.MaxUint32, Len: 32}
)

// noted is what Owns yields.
type noted struct {
	p  addr.Prefix
	on bool
}

// floor is what Floors yields.
type floor struct {
	k Key
	d dist.Dist
}

func ownOf(p addr.Prefix, on bool) rec.Rec { return rec.Rec{Kind: rec.Own, Prefix: p, On: on} }

func leaseOf(seq uint32) rec.Rec { return rec.Rec{Kind: rec.Lease, Dist: dist.Dist{Seq: seq}} }

func floorOf(id uint32, p addr.Prefix, seq uint32, metric uint16) rec.Rec {
	return rec.Rec{Kind: rec.Floor, ID: id, Prefix: p, Dist: dist.Dist{Seq: seq, Metric: metric}}
}

// of is the state of the router 7 behind some records.
func of(list ...rec.Rec) *State {
	s := New(7)
	for _, r := range list {
		s.Apply(r)
	}
	return s
}

func owns(s *State) []noted {
	var list []noted
	for p, on := range s.Owns() {
		list = append(list, noted{p, on})
	}
	return list
}

func floors(s *State) []floor {
	var list []floor
	for k, d := range s.Floors() {
		list = append(list, floor{k, d})
	}
	return list
}

// tells says so if a state doesn't tell just these by its calls.
func tells(t *testing.T, what string, s *State, lease uint32, o []noted, f []floor) {
	t.Helper()
	if s.Lease() != lease {
		t.Errorf("%s: Lease = %d, want %d", what, s.Lease(), lease)
	}
	if got := owns(s); !slices.Equal(got, o) {
		t.Errorf("%s: Owns yields %v, want %v", what, got, o)
	}
	if got := floors(s); !slices.Equal(got, f) {
		t.Errorf("%s: Floors yields %v, want %v", what, got, f)
	}
	for _, n := range o {
		if on, ever := s.Own(n.p); on != n.on || !ever {
			t.Errorf("%s: Own(%v) = %v, %v", what, n.p, on, ever)
		}
	}
	for _, e := range f {
		if d, ok := s.Floor(e.k); d != e.d || !ok {
			t.Errorf("%s: Floor(%v) = %v, %v", what, e.k, d, ok)
		}
	}
}

func TestNew(t *testing.T) {
	for _, id := range []uint32{0, 1, 7, 1 << 31, math.MaxUint32} {
		s := New(id)
		if s.ID() != id {
			t.Errorf("New(%d).ID() = %d", id, s.ID())
		}
		tells(t, "New", s, 0, nil, nil)
		if list := s.Records(); len(list) != 0 {
			t.Errorf("New: Records = %v", list)
		}
		if on, ever := s.Own(all); on || ever {
			t.Errorf("New: Own = %v, %v", on, ever)
		}
		if d, ok := s.Floor(Key{}); ok || d != (dist.Dist{}) {
			t.Errorf("New: Floor = %v, %v", d, ok)
		}
	}
}

func TestNoApplyTurnsTheID(t *testing.T) {
	s := of(rec.Rec{Kind: rec.Begin, ID: 9, Gen: 4}, ownOf(ten, true), leaseOf(5), floorOf(3, ten, 1, 1))
	if s.ID() != 7 {
		t.Errorf("ID = %d", s.ID())
	}
}

func TestApplyOwn(t *testing.T) {
	s := New(7)
	for _, c := range []struct {
		on   bool
		p    addr.Prefix
		want []noted
	}{
		{true, ten, []noted{{ten, true}}},
		{true, ten, []noted{{ten, true}}},
		{false, ten, []noted{{ten, false}}},
		{false, ten, []noted{{ten, false}}},
		{true, ten, []noted{{ten, true}}},
		// Noted as what isn't its own, without ever having been that.
		{false, tenLong, []noted{{ten, true}, {tenLong, false}}},
		{true, all, []noted{{all, true}, {ten, true}, {tenLong, false}}},
		{false, ten, []noted{{all, true}, {ten, false}, {tenLong, false}}},
	} {
		s.Apply(ownOf(c.p, c.on))
		tells(t, fmt.Sprintf("behind %v, %v", c.p, c.on), s, 0, c.want, nil)
	}
	for _, p := range []addr.Prefix{low, tenOne, last, {Addr: 1}, {Len: -1}, {Addr: ten.Addr, Len: 40}} {
		if on, ever := s.Own(p); on || ever {
			t.Errorf("Own(%v) = %v, %v", p, on, ever)
		}
	}
}

func TestApplyLease(t *testing.T) {
	s := New(7)
	for _, c := range []struct{ seq, want uint32 }{
		{0, 0}, {1, 1}, {0, 1}, {9, 9}, {8, 9}, {9, 9}, {1, 9}, {10, 10}, {1 << 30, 1 << 30}, {1<<30 - 1, 1 << 30}, {0, 1 << 30},
	} {
		s.Apply(leaseOf(c.seq))
		tells(t, fmt.Sprintf("behind %d", c.seq), s, c.want, nil, nil)
	}
}

func TestApplyFloor(t *testing.T) {
	s := New(7)
	k := Key{Prefix: ten, ID: 3}
	for _, c := range []struct{ told, want dist.Dist }{
		{dist.Dist{Seq: 2, Metric: 65534}, dist.Dist{Seq: 2, Metric: 65534}},
		{dist.Dist{Seq: 2, Metric: 9}, dist.Dist{Seq: 2, Metric: 9}},
		{dist.Dist{Seq: 2, Metric: 9}, dist.Dist{Seq: 2, Metric: 9}},
		{dist.Dist{Seq: 2, Metric: 10}, dist.Dist{Seq: 2, Metric: 9}},
		{dist.Dist{Seq: 1, Metric: 0}, dist.Dist{Seq: 2, Metric: 9}},
		{dist.Dist{Seq: 2, Metric: 8}, dist.Dist{Seq: 2, Metric: 8}},
		{dist.Dist{Seq: 3, Metric: 50}, dist.Dist{Seq: 3, Metric: 50}},
		{dist.Dist{Seq: 2, Metric: 1}, dist.Dist{Seq: 3, Metric: 50}},
		{dist.Dist{Seq: 3, Metric: 0}, dist.Dist{Seq: 3, Metric: 0}},
		{dist.Dist{Seq: 1 << 30, Metric: 65534}, dist.Dist{Seq: 1 << 30, Metric: 65534}},
	} {
		s.Apply(floorOf(3, ten, c.told.Seq, c.told.Metric))
		tells(t, fmt.Sprintf("behind %v", c.told), s, 0, nil, []floor{{k, c.want}})
	}
	for _, o := range []Key{{}, {Prefix: ten}, {ID: 3}, {Prefix: ten, ID: 2}, {Prefix: ten, ID: 4}, {Prefix: tenLong, ID: 3}, {Prefix: tenOne, ID: 3}} {
		if d, ok := s.Floor(o); ok || d != (dist.Dist{}) {
			t.Errorf("Floor(%v) = %v, %v", o, d, ok)
		}
	}
}

func TestApplyFloorOfTheZeroDist(t *testing.T) {
	s := of(floorOf(3, ten, 0, 0))
	tells(t, "of (0, 0)", s, 0, nil, []floor{{Key{ten, 3}, dist.Dist{}}})
	s = of(floorOf(3, ten, 0, 5), floorOf(3, ten, 0, 6))
	tells(t, "of (0, 5)", s, 0, nil, []floor{{Key{ten, 3}, dist.Dist{Metric: 5}}})
}

func TestFloorsAreApart(t *testing.T) {
	s := of(floorOf(3, ten, 5, 1), floorOf(4, ten, 2, 9), floorOf(3, tenLong, 1, 1), floorOf(3, all, 4, 4))
	tells(t, "of four keys", s, 0, nil, []floor{
		{Key{all, 3}, dist.Dist{Seq: 4, Metric: 4}},
		{Key{ten, 3}, dist.Dist{Seq: 5, Metric: 1}},
		{Key{ten, 4}, dist.Dist{Seq: 2, Metric: 9}},
		{Key{tenLong, 3}, dist.Dist{Seq: 1, Metric: 1}},
	})
}

func TestApplyOfBeginAndOthers(t *testing.T) {
	list := []rec.Rec{ownOf(ten, true), leaseOf(5), floorOf(3, ten, 2, 9)}
	o, f := []noted{{ten, true}}, []floor{{Key{ten, 3}, dist.Dist{Seq: 2, Metric: 9}}}
	s := of(list...)
	s.Apply(rec.Rec{Kind: rec.Begin, Gen: 8, ID: 7})
	tells(t, "behind a Begin", s, 5, o, f)
	for _, k := range []rec.Kind{0, 5, -1, 257, 1<<32 + 2, math.MinInt, math.MaxInt} {
		s.Apply(rec.Rec{Kind: k, ID: 9, Prefix: tenOne, On: true, Dist: dist.Dist{Seq: 99, Metric: 1}})
		s.Apply(rec.Rec{Kind: k, ID: 3, Prefix: ten, Dist: dist.Dist{Seq: 99, Metric: 1}})
		tells(t, fmt.Sprintf("behind the kind %d", k), s, 5, o, f)
	}
}

func TestApplyWhateverGenAndLSNAre(t *testing.T) {
	list := []rec.Rec{ownOf(ten, true), ownOf(ten, false), leaseOf(5), leaseOf(4), floorOf(3, ten, 2, 9), floorOf(3, ten, 2, 10)}
	for i := range list {
		list[i].Gen, list[i].LSN = uint32(100-i), uint32(50-i)
	}
	tells(t, "with Gen and LSN", of(list...), 5, []noted{{ten, false}}, []floor{{Key{ten, 3}, dist.Dist{Seq: 2, Metric: 9}}})
}

func TestOwnsInOrder(t *testing.T) {
	want := []noted{{all, false}, {low, true}, {ten, false}, {tenLong, true}, {tenOne, false}, {high, true}, {last, false}}
	random := rand.New(rand.NewSource(8))
	for range 50 {
		s := New(7)
		for _, i := range random.Perm(len(want)) {
			s.Apply(ownOf(want[i].p, want[i].on))
		}
		tells(t, "Owns", s, 0, want, nil)
	}
}

func TestFloorsInOrder(t *testing.T) {
	var want []floor
	for _, p := range []addr.Prefix{all, low, ten, tenLong, tenOne, high, last} {
		for _, id := range []uint32{1, 2, 1<<31 - 1, 1 << 31, math.MaxUint32} {
			want = append(want, floor{Key{p, id}, dist.Dist{Seq: id % 1000, Metric: uint16(p.Len)}})
		}
	}
	random := rand.New(rand.NewSource(9))
	for range 50 {
		s := New(7)
		for _, i := range random.Perm(len(want)) {
			s.Apply(floorOf(want[i].k.ID, want[i].k.Prefix, want[i].d.Seq, want[i].d.Metric))
		}
		tells(t, "Floors", s, 0, nil, want)
	}
}

// many is a state of several prefixes and floors.
func many() *State {
	return of(ownOf(last, true), ownOf(ten, false), ownOf(all, true), leaseOf(6), floorOf(2, ten, 1, 1), floorOf(1, ten, 2, 2), floorOf(9, all, 3, 3))
}

func TestGoneThroughAgain(t *testing.T) {
	s := many()
	o, f := s.Owns(), s.Floors()
	for range 3 {
		var gotO []noted
		for p, on := range o {
			gotO = append(gotO, noted{p, on})
		}
		var gotF []floor
		for k, d := range f {
			gotF = append(gotF, floor{k, d})
		}
		if !slices.Equal(gotO, owns(s)) || !slices.Equal(gotF, floors(s)) || len(gotO) != 3 || len(gotF) != 3 {
			t.Errorf("again: %v, %v", gotO, gotF)
		}
	}
}

func TestGoneThroughWithinItself(t *testing.T) {
	s := many()
	o, f := s.Owns(), s.Floors()
	n := 0
	for range o {
		for range o {
			for range f {
				for range f {
					n++
				}
			}
		}
	}
	if n != 81 {
		t.Errorf("%d turns, want 81", n)
	}
}

func TestLeftEarly(t *testing.T) {
	s := many()
	wantO, wantF := owns(s), floors(s)
	o, f := s.Owns(), s.Floors()
	for n := 1; n <= 3; n++ {
		var gotO []noted
		o(func(p addr.Prefix, on bool) bool {
			gotO = append(gotO, noted{p, on})
			return len(gotO) < n
		})
		var gotF []floor
		f(func(k Key, d dist.Dist) bool {
			gotF = append(gotF, floor{k, d})
			return len(gotF) < n
		})
		if !slices.Equal(gotO, wantO[:n]) || !slices.Equal(gotF, wantF[:n]) {
			t.Errorf("left behind %d: %v, %v", n, gotO, gotF)
		}
	}
	tells(t, "behind that", s, 6, wantO, wantF)
}

// What was answered is turned by no call: neither what is held already, nor what is being gone through.
func TestNoApplyTurnsWhatWasAnswered(t *testing.T) {
	s := many()
	wantO, wantF := owns(s), floors(s)
	o, f, list := s.Owns(), s.Floors(), s.Records()
	was := slices.Clone(list)
	var gotO []noted
	for p, on := range o {
		gotO = append(gotO, noted{p, on})
		s.Apply(ownOf(p, !on))
		s.Apply(ownOf(ten, true))
		s.Apply(ownOf(high, true))
	}
	var gotF []floor
	for k, d := range f {
		gotF = append(gotF, floor{k, d})
		s.Apply(floorOf(k.ID, k.Prefix, 50, 0))
		s.Apply(floorOf(2, ten, 60, 0))
		s.Apply(floorOf(2, last, 50, 0))
	}
	if !slices.Equal(gotO, wantO) || !slices.Equal(gotF, wantF) || !slices.Equal(list, was) {
		t.Errorf("turned by Apply: %v, %v, %v", gotO, gotF, list)
	}
	if len(owns(s)) != 4 || len(floors(s)) != 4 {
		t.Errorf("behind that: %v, %v", owns(s), floors(s))
	}
}

func TestNobodyTurnsAStateByWhatItAnswered(t *testing.T) {
	s := many()
	o, f := owns(s), floors(s)
	list := s.Records()
	for i := range list {
		list[i] = ownOf(high, true)
	}
	tells(t, "behind that", s, 6, o, f)
	if got := s.Records(); slices.Equal(got, list) {
		t.Errorf("two answers share memory: %v", got)
	}
}

func TestFeasibleAndCovers(t *testing.T) {
	s := of(floorOf(3, ten, 2, 9), floorOf(4, ten, 0, 0), floorOf(5, ten, 1<<30, 0))
	for _, c := range []struct {
		id               uint32
		p                addr.Prefix
		d                dist.Dist
		feasible, covers bool
	}{
		{3, ten, dist.Dist{Seq: 2, Metric: 8}, true, false},
		{3, ten, dist.Dist{Seq: 2, Metric: 0}, true, false},
		{3, ten, dist.Dist{Seq: 3, Metric: 50}, true, false},
		{3, ten, dist.Dist{Seq: 3, Metric: 65534}, true, false},
		{3, ten, dist.Dist{Seq: 2, Metric: 9}, false, true},
		{3, ten, dist.Dist{Seq: 2, Metric: 10}, false, true},
		{3, ten, dist.Dist{Seq: 2, Metric: 65534}, false, true},
		{3, ten, dist.Dist{Seq: 1, Metric: 1}, false, true},
		{3, ten, dist.Dist{}, false, true},
		// Lost: both, worse than the floor or better.
		{3, ten, dist.Dist{Seq: 0, Metric: 65535}, true, true},
		{3, ten, dist.Dist{Seq: 2, Metric: 65535}, true, true},
		{3, ten, dist.Dist{Seq: 9, Metric: 65535}, true, true},
		// A floor that is the zero Dist is one.
		{4, ten, dist.Dist{}, false, true},
		{4, ten, dist.Dist{Metric: 1}, false, true},
		{4, ten, dist.Dist{Seq: 1, Metric: 65534}, true, false},
		{5, ten, dist.Dist{Seq: 1 << 30}, false, true},
		{5, ten, dist.Dist{Seq: 1<<30 + 1, Metric: 9}, true, false},
		{5, ten, dist.Dist{Seq: math.MaxUint32, Metric: 9}, true, false},
		// Without a floor.
		{6, ten, dist.Dist{}, true, false},
		{6, ten, dist.Dist{Seq: 1, Metric: 65534}, true, false},
		{6, ten, dist.Dist{Metric: 65535}, true, true},
		{3, tenLong, dist.Dist{Seq: 1, Metric: 10}, true, false},
		{3, all, dist.Dist{Seq: 1, Metric: 10}, true, false},
		{0, ten, dist.Dist{Seq: 1, Metric: 10}, true, false},
		{3, addr.Prefix{Addr: 1, Len: -1}, dist.Dist{Seq: 1, Metric: 10}, true, false},
	} {
		k := Key{c.p, c.id}
		if f, v := s.Feasible(k, c.d), s.Covers(k, c.d); f != c.feasible || v != c.covers {
			t.Errorf("of %v, %v: Feasible %v, Covers %v", k, c.d, f, v)
		}
	}
	if len(floors(s)) != 3 {
		t.Errorf("Feasible or Covers turned the floors: %v", floors(s))
	}
}

func TestRecords(t *testing.T) {
	s := of(
		floorOf(2, tenOne, 8, 1), leaseOf(4), ownOf(last, true), floorOf(1, tenOne, 9, 65534), ownOf(all, true), rec.Rec{Kind: rec.Begin, ID: 7},
		ownOf(ten, true), leaseOf(6), floorOf(3, all, 0, 0), ownOf(ten, false), leaseOf(5), floorOf(2, tenOne, 8, 2), floorOf(3, ten, 7, 7),
	)
	want := []rec.Rec{
		ownOf(all, true), ownOf(ten, false), ownOf(last, true), leaseOf(6),
		floorOf(3, all, 0, 0), floorOf(3, ten, 7, 7), floorOf(1, tenOne, 9, 65534), floorOf(2, tenOne, 8, 1),
	}
	if got := s.Records(); !slices.Equal(got, want) {
		t.Errorf("Records = %v, want %v", got, want)
	}
	for _, r := range want {
		if !r.Right() {
			t.Errorf("%v isn't Right", r)
		}
	}
}

func TestRecordsOfParts(t *testing.T) {
	for _, want := range [][]rec.Rec{
		nil, {ownOf(ten, false)}, {ownOf(ten, true)}, {leaseOf(1)}, {floorOf(1, ten, 0, 0)},
		{ownOf(ten, true), floorOf(1, ten, 1, 0)}, {leaseOf(1 << 30), floorOf(1, ten, 1, 0)}, {ownOf(ten, true), leaseOf(2)},
	} {
		if got := of(want...).Records(); !slices.Equal(got, want) {
			t.Errorf("Records = %v, want %v", got, want)
		}
	}
	if got := of(leaseOf(0)).Records(); len(got) != 0 {
		t.Errorf("Records of a Lease of 0: %v", got)
	}
}

func TestRecordsHaveNeitherGenNorLSN(t *testing.T) {
	list := []rec.Rec{ownOf(ten, true), leaseOf(3), floorOf(1, ten, 1, 0)}
	s := New(7)
	for i, r := range list {
		r.Gen, r.LSN = 4, uint32(i+1)
		s.Apply(r)
	}
	if got := s.Records(); !slices.Equal(got, list) {
		t.Errorf("Records = %v, want %v", got, list)
	}
}

func TestAZeroState(t *testing.T) {
	var s State
	tells(t, "zero", &s, 0, nil, nil)
	s.Apply(ownOf(ten, true))
	s.Apply(leaseOf(2))
	s.Apply(floorOf(1, ten, 1, 0))
	tells(t, "zero, turned", &s, 2, []noted{{ten, true}}, []floor{{Key{ten, 1}, dist.Dist{Seq: 1}}})
}

func TestStatesAreApart(t *testing.T) {
	a, b := New(1), New(1)
	a.Apply(ownOf(ten, true))
	a.Apply(leaseOf(2))
	a.Apply(floorOf(1, ten, 1, 0))
	tells(t, "the other", b, 0, nil, nil)
}

// someRecord is a record that is Right, of few prefixes, numbers and distances: so they meet.
func someRecord(random *rand.Rand) rec.Rec {
	p := []addr.Prefix{all, low, ten, tenLong, tenOne, high, last}[random.Intn(7)]
	switch random.Intn(4) {
	case 0:
		return ownOf(p, random.Intn(2) == 1)
	case 1:
		return leaseOf(uint32(random.Intn(20)))
	case 2:
		return rec.Rec{Kind: rec.Begin, ID: 1 + random.Uint32()>>1}
	}
	return floorOf(uint32(1+random.Intn(3)), p, uint32(random.Intn(4)), uint16(random.Intn(4)))
}

// A slow state: all records that were applied, gone through for each question.
type slow []rec.Rec

func (s slow) own(p addr.Prefix) (on, ever bool) {
	for _, r := range s {
		if r.Kind == rec.Own && r.Prefix == p {
			on, ever = r.On, true
		}
	}
	return on, ever
}

func (s slow) lease() uint32 {
	most := uint32(0)
	for _, r := range s {
		if r.Kind == rec.Lease && r.Dist.Seq > most {
			most = r.Dist.Seq
		}
	}
	return most
}

func (s slow) floor(k Key) (best dist.Dist, ok bool) {
	for _, r := range s {
		if r.Kind != rec.Floor || r.Prefix != k.Prefix || r.ID != k.ID {
			continue
		}
		d := r.Dist
		if !ok || d.Seq > best.Seq || d.Seq == best.Seq && d.Metric < best.Metric {
			best, ok = d, true
		}
	}
	return best, ok
}

// lists is all that a slow state has, by rising order.
func (s slow) lists() ([]noted, []floor) {
	var o []noted
	var f []floor
	for _, p := range []addr.Prefix{all, low, ten, tenLong, tenOne, high, last} {
		if on, ever := s.own(p); ever {
			o = append(o, noted{p, on})
		}
		for id := range uint32(5) {
			if d, ok := s.floor(Key{p, id}); ok {
				f = append(f, floor{Key{p, id}, d})
			}
		}
	}
	return o, f
}

func TestWhateverIsApplied(t *testing.T) {
	random := rand.New(rand.NewSource(10))
	for range 30 {
		s, w := New(7), slow(nil)
		for range 60 {
			r := someRecord(random)
			s.Apply(r)
			w = append(w, r)
			o, f := w.lists()
			tells(t, "whatever", s, w.lease(), o, f)
			again := of(s.Records()...)
			tells(t, "made anew", again, w.lease(), o, f)
			checkWays(t, random, s, w)
			if t.Failed() {
				return
			}
		}
	}
}

// checkWays holds Feasible and Covers of some distance against what the document says.
func checkWays(t *testing.T, random *rand.Rand, s *State, w slow) {
	t.Helper()
	k := Key{[]addr.Prefix{all, low, ten, tenLong, tenOne, high, last}[random.Intn(7)], uint32(random.Intn(5))}
	d := dist.Dist{Seq: uint32(random.Intn(5)), Metric: uint16(random.Intn(5))}
	if random.Intn(10) == 0 {
		d.Metric = api.Inf
	}
	f, ok := w.floor(k)
	better := d.Seq > f.Seq || d.Seq == f.Seq && d.Metric < f.Metric
	lost := d.Metric == api.Inf
	if got, want := s.Feasible(k, d), lost || !ok || better; got != want {
		t.Errorf("Feasible(%v, %v) = %v, floor %v, %v", k, d, got, f, ok)
	}
	if got, want := s.Covers(k, d), lost || ok && !better; got != want {
		t.Errorf("Covers(%v, %v) = %v, floor %v, %v", k, d, got, f, ok)
	}
}
