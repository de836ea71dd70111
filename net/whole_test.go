package net

import (
	"fmt"
	"math/rand"
	"testing"

	"wayfarer/addr"
	"wayfarer/api"
	"wayfarer/disk"
	"wayfarer/dist"
	"wayfarer/loop"
	"wayfarer/state"
	"wayfarer/tlv"
)

// told is what a machine told from its beginning on, through all crashes.
type told struct {
	seq    uint32                  // the greatest number of its own prefixes
	seqs   uint32                  // that, as it was when the machine ran last
	best   map[state.Key]dist.Dist // the best of each prefix that is another one's
	own    map[addr.Prefix]bool    // what is its own, as was acknowledged
	failed map[addr.Prefix]bool    // turns that failed since
}

// world is a net to which anything happens, but that no prefix is ever two machines' own.
type world struct {
	t     *testing.T
	name  string
	g     *rand.Rand
	w     *Net
	told  []told
	costs [8][8]int
}

// pool is prefixes, many of which begin alike.
func pool() []addr.Prefix {
	return []addr.Prefix{
		all, ten, tenOne, high, last,
		{Addr: 0x0a000000, Len: 16}, {Addr: 0x0a010000, Len: 24}, {Addr: 0x0a010200, Len: 24}, {Addr: 0x0a010203, Len: 32},
		{Addr: 0x0a800000, Len: 9}, {Addr: 0xffff0000, Len: 16}, {Len: 32}, {Len: 1},
	}
}

// owner is the one machine whose own a prefix of the pool may be.
func (o *world) owner(k int) int { return k % o.w.Size() }

func newWorld(t *testing.T, name string, seed int64, n, sectors int) *world {
	o := &world{t: t, name: name, g: rand.New(rand.NewSource(seed)), w: New(n, sectors)}
	for range n {
		o.told = append(o.told, told{best: map[state.Key]dist.Dist{}, own: map[addr.Prefix]bool{}, failed: map[addr.Prefix]bool{}})
	}
	return o
}

// boot boots a machine, and says so if what must not be forgotten was.
func (o *world) boot(i int) {
	o.t.Helper()
	if o.w.Boot(i) != api.OK {
		return
	}
	s, was := o.w.Router(i).State(), &o.told[i]
	was.seqs = was.seq
	turned := 0
	for _, p := range pool() {
		is, _ := s.Own(p)
		if is != was.own[p] {
			turned++
			if on, ok := was.failed[p]; !ok || on != is {
				o.t.Fatalf("%s: behind a crash of %d, %v is its own: %v", o.name, i, p, is)
			}
			was.own[p] = is
		}
	}
	if turned > 1 {
		o.t.Fatalf("%s: behind a crash of %d, %d turns that failed count", o.name, i, turned)
	}
	clear(was.failed)
}

// own turns some prefix to be its owner's own, or no more.
func (o *world) own() {
	k := o.g.Intn(len(pool()))
	p, i, on := pool()[k], o.owner(k), o.g.Intn(4) != 0
	switch o.w.Own(i, p, on) {
	case api.OK:
		o.told[i].own[p] = on
		clear(o.told[i].failed)
	case api.ErrIO:
		o.told[i].failed[p] = on
	}
}

func (o *world) link(a, b, cost int) {
	if o.w.Link(a, b, cost) == api.OK {
		o.costs[a][b], o.costs[b][a] = cost, cost
	}
}

// tick lets time go by for a machine, and says so if it tells what isn't noted.
func (o *world) tick(i int) {
	o.t.Helper()
	from := o.w.Waiting()
	if o.w.Tick(i) != api.OK {
		return
	}
	s, was := o.w.Router(i).State(), &o.told[i]
	for _, p := range packets(o.w)[from:] {
		list, ok := tlv.Decode(p.Data)
		if !ok || len(list) == 0 {
			o.t.Fatalf("%s: %d tells %x", o.name, i, p.Data)
		}
		for _, u := range list {
			if !u.Dist.Lost() {
				o.noted(i, s, was, u)
			}
		}
	}
}

// noted says so if what a machine tells isn't noted.
func (o *world) noted(i int, s *state.State, was *told, u tlv.Update) {
	o.t.Helper()
	if u.ID == uint32(i)+1 {
		if u.Dist.Seq <= was.seqs || u.Dist.Seq > s.Lease() || u.Dist.Metric != 0 {
			o.t.Fatalf("%s: %d tells %v, leased up to %d, behind a crash, ahead of which it told %d", o.name, i, u, s.Lease(), was.seqs)
		}
		was.seq = max(was.seq, u.Dist.Seq)
		return
	}
	k := state.Key{Prefix: u.Prefix, ID: u.ID}
	if d, ok := was.best[k]; !ok || u.Dist.Compare(d) > 0 {
		was.best[k] = u.Dist
	}
}

// check says so if something would come to a machine twice, or a machine has forgotten what it told.
func (o *world) check(what string) {
	o.t.Helper()
	fibs := o.w.Fibs()
	for _, a := range loop.Addresses(fibs) {
		// Of each prefix's ends, and of what lies just beside them.
		for _, b := range []uint32{a - 1, a, a + 1} {
			for i := range fibs {
				if path, _, ok := loop.Walk(fibs, i, b); !ok {
					o.t.Fatalf("%s, %s: to %#x in a ring: %v of %v", o.name, what, b, path, fibs)
				}
			}
		}
	}
	for _, p := range pool() {
		if loop.Around(fibs, p) {
			o.t.Fatalf("%s, %s: %v leads in a ring: %v", o.name, what, p, fibs)
		}
	}
	for i, was := range o.told {
		r := o.w.Router(i)
		if r == nil {
			continue
		}
		if r.State().Lease() < was.seq {
			o.t.Fatalf("%s, %s: %d leases %d, but told %d", o.name, what, i, r.State().Lease(), was.seq)
		}
		for k, d := range was.best {
			if !r.State().Covers(k, d) {
				o.t.Fatalf("%s, %s: %d has no floor of %v, but told %v", o.name, what, i, k, d)
			}
		}
	}
}

// step lets something happen, and tells what that was.
func (o *world) step() string {
	o.t.Helper()
	n := o.w.Size()
	i, k := o.g.Intn(n), o.g.Intn(o.w.Waiting()+1)
	switch kind := o.g.Intn(100); {
	case kind < 6:
		o.boot(i)
	case kind < 8:
		o.w.Crash(i, []disk.Pick{
			{How: o.g.Intn(3), At: o.g.Intn(384), Turn: o.g.Uint32() >> o.g.Intn(32)},
			{How: o.g.Intn(3), At: o.g.Intn(384), Turn: o.g.Uint32() >> o.g.Intn(32)},
		})
	case kind < 11:
		o.w.Fail(i, o.g.Intn(6))
	case kind < 17:
		o.link(i, o.g.Intn(n), some(o.g, 0, 1, 1, 2, 3, 5, 10, 100, 1000))
	case kind < 22:
		o.own()
	case kind < 55:
		o.tick(i)
	case kind < 85:
		o.w.Deliver(k, some(o.g, api.MaxMTU, api.MaxMTU, api.MaxMTU, o.g.Intn(60)))
	case kind < 90:
		o.w.Lose(k)
	case kind < 96:
		o.w.Again(k)
	default:
		o.round()
	}
	return fmt.Sprintf("a step at %d", i)
}

// round is a Round, in which what is told is looked at, too.
func (o *world) round() {
	o.t.Helper()
	for i := range o.w.Size() {
		o.tick(i)
	}
	for o.w.Waiting() > 0 {
		o.w.Deliver(0, api.MaxMTU)
		o.check("a Round")
	}
}

// nearest is the least sum of links' costs from each machine to each other one; below 0: there is no path.
func (o *world) nearest() [8][8]int {
	sums := o.costs
	for a := range sums {
		for b := range sums {
			if sums[a][b] == 0 && a != b {
				sums[a][b] = -1
			}
		}
	}
	for via := range sums {
		for a := range sums {
			for b := range sums {
				x, y := sums[a][via], sums[via][b]
				if x >= 0 && y >= 0 && (sums[a][b] < 0 || x+y < sums[a][b]) {
					sums[a][b] = x + y
				}
			}
		}
	}
	return sums
}

// settle lets all run, and 40 Rounds go by, and says so if not each way is the nearest one then.
func (o *world) settle() {
	o.t.Helper()
	for i := range o.w.Size() {
		o.w.Fail(i, -1)
		o.boot(i)
		if o.w.Router(i) == nil {
			o.t.Fatalf("%s: %d doesn't run", o.name, i)
		}
	}
	for range 40 {
		o.w.Round()
		o.check("while nothing happens")
	}
	sums := o.nearest()
	for k, p := range pool() {
		is, _ := o.w.Router(o.owner(k)).State().Own(p)
		for i := range o.w.Size() {
			want := sums[i][o.owner(k)]
			if !is {
				want = -1
			}
			far(o.t, o.name, o.w, i, p, want)
		}
	}
}

func TestWhateverHappens(t *testing.T) {
	for seed := range int64(60) {
		o := newWorld(t, fmt.Sprintf("seed %d", seed), seed, int(seed)%7+2, 128)
		for range 3 {
			for range 150 {
				o.check(o.step())
			}
			o.settle()
			if t.Failed() {
				return
			}
		}
	}
}

// Journals with too little room: then nothing is promised of how near a way is, but all the rest.
func TestWhateverHappensWithLittleRoom(t *testing.T) {
	for seed := range int64(60) {
		o := newWorld(t, fmt.Sprintf("seed %d", seed), seed, int(seed)%7+2, []int{4, 8, 12, 20}[seed%4])
		for range 400 {
			o.check(o.step())
		}
	}
}
