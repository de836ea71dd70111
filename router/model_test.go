package router

import (
	"bytes"
	"fmt"
	"math/rand"
	"slices"
	"testing"

	"wayfarer/addr"
	"wayfarer/api"
	"wayfarer/disk"
	"wayfarer/dist"
	"wayfarer/fib"
	"wayfarer/rec"
	"wayfarer/tlv"
	"wayfarer/wal"
)

// kept is a way of a neighbour, as the model has it.
type kept struct {
	p      addr.Prefix
	from   int
	id     uint32
	d      dist.Dist
	expiry int64
}

// model is a second router, over a disk of its own, which does all by going through plain lists.
type model struct {
	id    uint32
	disk  *disk.Disk
	log   *wal.Log
	ways  []kept
	cost  map[int]int
	now   int64
	seq   uint32
	since int64
}

func newModel(d *disk.Disk, id uint32) (*model, api.Errno) {
	l, e := wal.Open(d, id)
	if e != api.OK {
		return nil, e
	}
	return &model{id: id, disk: d, log: l, cost: map[int]int{}}, e
}

func (m *model) link(n, cost int) api.Errno {
	if n < 0 || n > 7 || cost < 0 || cost > 1000 {
		return api.ErrArg
	}
	m.cost[n] = cost
	if cost == 0 {
		m.ways = slices.DeleteFunc(m.ways, func(k kept) bool { return k.from == n })
	}
	return api.OK
}

// noted is the prefixes that are noted, and whether each is the model's own.
func (m *model) noted() map[addr.Prefix]bool {
	all := map[addr.Prefix]bool{}
	for _, r := range m.log.State().Records() {
		if r.Kind == rec.Own {
			all[r.Prefix] = r.On
		}
	}
	return all
}

// floor is the floor of a prefix and a router; nil: none.
func (m *model) floor(p addr.Prefix, id uint32) *dist.Dist {
	for _, r := range m.log.State().Records() {
		if r.Kind == rec.Floor && r.Prefix == p && r.ID == id {
			return &r.Dist
		}
	}
	return nil
}

func (m *model) answers(p addr.Prefix) bool {
	for _, r := range m.log.State().Records() {
		if (r.Kind == rec.Floor || r.Kind == rec.Own) && r.Prefix == p {
			return true
		}
	}
	return false
}

func better(a, b dist.Dist) bool {
	return a.Seq > b.Seq || a.Seq == b.Seq && a.Metric < b.Metric
}

func (m *model) feasible(p addr.Prefix, id uint32, d dist.Dist) bool {
	f := m.floor(p, id)
	return f == nil || better(d, *f)
}

func (m *model) own(p addr.Prefix, on bool) api.Errno {
	noted := m.noted()
	is, ever := noted[p]
	if !p.Right() {
		return api.ErrArg
	}
	if on && is {
		return api.ErrState
	}
	if !on && !is {
		return api.ErrNone
	}
	if !ever && len(noted) >= 16 {
		return api.ErrFull
	}
	return m.log.Append(rec.Rec{Kind: rec.Own, Prefix: p, On: on})
}

func (m *model) forget(p addr.Prefix, from int) {
	m.ways = slices.DeleteFunc(m.ways, func(k kept) bool { return k.from == from && k.p == p })
}

func (m *model) receive(from int, b []byte) {
	list, ok := tlv.Decode(b)
	if m.cost[from] == 0 || !ok {
		return
	}
	for _, u := range list {
		if m.noted()[u.Prefix] || u.ID == m.id {
			continue
		}
		if u.Dist.Metric == 65535 {
			m.forget(u.Prefix, from)
		} else if m.feasible(u.Prefix, u.ID, u.Dist) {
			m.forget(u.Prefix, from)
			m.ways = append(m.ways, kept{u.Prefix, from, u.ID, u.Dist, m.now + 3})
		} else {
			m.ways = slices.DeleteFunc(m.ways, func(k kept) bool { return k.from == from && k.p == u.Prefix && k.id != u.ID })
		}
	}
}

// way is the way to a prefix, and how far it is by that; nil: there is none.
func (m *model) way(p addr.Prefix) (*kept, int) {
	var best *kept
	far := 0
	for i, k := range m.ways {
		d := int(k.d.Metric) + m.cost[k.from]
		if k.p != p || m.noted()[p] || !m.feasible(p, k.id, k.d) || d >= 65535 {
			continue
		}
		if best == nil || d < far || d == far && k.from < best.from {
			best, far = &m.ways[i], d
		}
	}
	return best, far
}

// known is every prefix that the model has anything of, in order.
func (m *model) known() []addr.Prefix {
	var list []addr.Prefix
	for _, r := range m.log.State().Records() {
		if r.Kind == rec.Floor || r.Kind == rec.Own {
			list = append(list, r.Prefix)
		}
	}
	for _, k := range m.ways {
		list = append(list, k.p)
	}
	slices.SortFunc(list, addr.Prefix.Compare)
	return slices.Compact(list)
}

func (m *model) fib() fib.Fib {
	var f fib.Fib
	for _, p := range m.known() {
		k, _ := m.way(p)
		if m.noted()[p] {
			f = append(f, fib.Entry{Prefix: p, How: fib.Here})
		} else if k != nil {
			f = append(f, fib.Entry{Prefix: p, How: fib.Via, Next: k.from})
		} else if m.answers(p) {
			f = append(f, fib.Entry{Prefix: p, How: fib.Blackhole})
		}
	}
	return f
}

func (m *model) distance(p addr.Prefix) (int, bool) {
	k, far := m.way(p)
	return far, k != nil || m.noted()[p]
}

// advance lets the model's number go on, as a Tick does.
func (m *model) advance() {
	next := m.seq + 1
	lease := m.log.State().Lease()
	if m.seq == 0 {
		next = lease + 1
	} else if m.now < m.since+12 {
		return
	}
	if next > 1<<30 {
		return
	}
	if next > lease {
		r := rec.Rec{Kind: rec.Lease, Dist: dist.Dist{Seq: min(next+7, 1<<30)}}
		if m.log.Append(r) != api.OK {
			return
		}
	}
	m.seq, m.since = next, m.now
}

func (m *model) tick() []Out {
	m.now++
	m.ways = slices.DeleteFunc(m.ways, func(k kept) bool { return k.expiry <= m.now })
	for _, on := range m.noted() {
		if on {
			m.advance()
			break
		}
	}
	var list []tlv.Update
	for _, p := range m.known() {
		k, far := m.way(p)
		if m.noted()[p] {
			if m.seq > 0 {
				list = append(list, tlv.Update{Prefix: p, ID: m.id, Dist: dist.Dist{Seq: m.seq}})
			}
		} else if k != nil {
			d := dist.Dist{Seq: k.d.Seq, Metric: uint16(far)}
			f := m.floor(p, k.id)
			if f != nil && !better(d, *f) || m.log.Append(rec.Rec{Kind: rec.Floor, ID: k.id, Prefix: p, Dist: d}) == api.OK {
				list = append(list, tlv.Update{Prefix: p, ID: k.id, Dist: d})
			}
		} else if m.answers(p) {
			list = append(list, tlv.Update{Prefix: p, Dist: dist.Dist{Metric: 65535}})
		}
	}
	var out []Out
	for n := range 8 {
		for _, b := range tlv.Encode(list) {
			if m.cost[n] != 0 {
				out = append(out, Out{n, b})
			}
		}
	}
	return out
}

// pair is a Router, and the model of it.
type pair struct {
	t    *testing.T
	name string
	r    *Router
	d    *disk.Disk
	m    *model
}

// boot is a pair over two disks that hold the same.
func boot(t *testing.T, name string, a, b *disk.Disk, id uint32) *pair {
	t.Helper()
	r, e := New(a, id)
	m, want := newModel(b, id)
	if e != want || (r == nil) != (m == nil) {
		t.Fatalf("%s: New tells %d, want %d", name, e, want)
	}
	if r == nil {
		return nil
	}
	return &pair{t, name, r, a, m}
}

func sameOut(a, b []Out) bool {
	return slices.EqualFunc(a, b, func(x, y Out) bool { return x.To == y.To && bytes.Equal(x.Data, y.Data) })
}

// check says so if what the Router tells isn't what the model does, or its disk holds something else.
func (p *pair) check(what string, prefixes []addr.Prefix) {
	p.t.Helper()
	if p.r.Now() != p.m.now || p.r.Seq() != p.m.seq {
		p.t.Fatalf("%s, %s: Now and Seq are %d, %d, want %d, %d", p.name, what, p.r.Now(), p.r.Seq(), p.m.now, p.m.seq)
	}
	if a, b := p.r.State().Records(), p.m.log.State().Records(); !slices.Equal(a, b) {
		p.t.Fatalf("%s, %s: State is %v, want %v", p.name, what, a, b)
	}
	if a, b := p.r.Fib(), p.m.fib(); !slices.Equal(a, b) {
		p.t.Fatalf("%s, %s: Fib is %v, want %v", p.name, what, a, b)
	}
	for _, x := range prefixes {
		a, ok := p.r.Distance(x)
		b, want := p.m.distance(x)
		if a != b || ok != want {
			p.t.Fatalf("%s, %s: Distance of %v is %d, %v, want %d, %v", p.name, what, x, a, ok, b, want)
		}
	}
	for i := range p.d.Size() {
		a, _ := p.d.Read(i)
		b, _ := p.m.disk.Read(i)
		if !bytes.Equal(a, b) {
			p.t.Fatalf("%s, %s: sector %d holds %x, want %x", p.name, what, i, a, b)
		}
	}
}

// some is one of a list.
func some[T any](g *rand.Rand, list ...T) T { return list[g.Intn(len(list))] }

// datagram is what a neighbour may send, told of these prefixes; now and then it is cut off, or nothing at all.
func datagram(g *rand.Rand, prefixes []addr.Prefix) []byte {
	var list []tlv.Update
	for range 1 + g.Intn(4) {
		u := tlv.Update{Prefix: some(g, prefixes...), ID: some[uint32](g, 7, 8, 8, 8, 9, 10)}
		u.Dist = dist.Dist{Seq: uint32(1 + g.Intn(5)), Metric: some[uint16](g, 0, 1, 2, 3, 5, 9, 20, 64999, 65533, 65534)}
		if g.Intn(6) == 0 {
			u.ID, u.Dist = 0, dist.Dist{Metric: api.Inf}
		}
		list = append(list, u)
	}
	all := tlv.Encode(list)
	if len(all) == 0 {
		return nil
	}
	b := all[0]
	if g.Intn(10) == 0 {
		b = b[:g.Intn(len(b)+1)]
	}
	return b
}

// step does one thing to both of a pair, and tells what that was.
func (p *pair) step(g *rand.Rand, prefixes []addr.Prefix) string {
	p.t.Helper()
	switch g.Intn(12) {
	case 0:
		n, cost := g.Intn(10)-1, some(g, -1, 0, 1, 1, 2, 5, 1000, 1001)
		what := fmt.Sprintf("Link(%d, %d)", n, cost)
		if a, b := p.r.Link(n, cost), p.m.link(n, cost); a != b {
			p.t.Fatalf("%s: %s tells %d, want %d", p.name, what, a, b)
		}
		return what
	case 1:
		x, on := some(g, append(prefixes, addr.Prefix{Addr: 1})...), g.Intn(3) != 0
		what := fmt.Sprintf("Own(%v, %v)", x, on)
		if a, b := p.r.Own(x, on), p.m.own(x, on); a != b {
			p.t.Fatalf("%s: %s tells %d, want %d", p.name, what, a, b)
		}
		return what
	case 2:
		after := g.Intn(8)
		p.d.Fail(after)
		p.m.disk.Fail(after)
		return fmt.Sprintf("Fail(%d)", after)
	case 3, 4, 5:
		if a, b := p.r.Tick(), p.m.tick(); !sameOut(a, b) {
			p.t.Fatalf("%s: Tick tells %v, want %v", p.name, a, b)
		}
		return "Tick"
	}
	from, b := g.Intn(10)-1, datagram(g, prefixes)
	p.m.receive(from, b)
	was := slices.Clone(b)
	p.r.Receive(from, b)
	if !bytes.Equal(b, was) {
		p.t.Fatalf("%s: Receive has changed its bytes", p.name)
	}
	clear(b)
	return fmt.Sprintf("Receive(%d, %x)", from, was)
}

func TestRandomCallsAgainstAModel(t *testing.T) {
	prefixes := []addr.Prefix{all, ten, tenLong, tenOne, high, last}
	sizes := []int{4, 8, 12, 20, 64}
	for seed := range int64(150) {
		g := rand.New(rand.NewSource(seed))
		size := sizes[seed%int64(len(sizes))]
		a, b := disk.New(size), disk.New(size)
		p := boot(t, fmt.Sprintf("seed %d", seed), a, b, 7)
		p.check("New", prefixes)
		for n := range 4 {
			p.r.Link(n, n+1)
			p.m.link(n, n+1)
		}
		for i := range 250 {
			what := p.step(g, prefixes)
			p.check(fmt.Sprintf("%d, %s", i, what), prefixes)
			if g.Intn(100) != 0 {
				continue
			}
			picks := []disk.Pick{{How: g.Intn(3), At: g.Intn(400), Turn: 1}, {How: g.Intn(3), At: g.Intn(400), Turn: 5}}
			a.Crash(picks)
			b.Crash(picks)
			p = boot(t, p.name, a, b, 7)
			p.check("New behind a crash", prefixes)
			for n := range 3 {
				p.r.Link(n, n+2)
				p.m.link(n, n+2)
			}
		}
	}
}
