package net

import (
	"bytes"
	"fmt"
	"math"
	"math/rand"
	"slices"
	"testing"

	"wayfarer/addr"
	"wayfarer/api"
	"wayfarer/disk"
	"wayfarer/fib"
	"wayfarer/router"
)

// model is a second net, over routers and disks of its own, which keeps links and datagrams in plain ways.
type model struct {
	disks   []*disk.Disk
	routers map[int]*router.Router // those that run
	links   map[[2]int]int         // by the lesser machine, and the greater one
	way     []Packet
}

func newModel(n, sectors int) *model {
	m := &model{routers: map[int]*router.Router{}, links: map[[2]int]int{}}
	for range n {
		m.disks = append(m.disks, disk.New(sectors))
	}
	return m
}

func (m *model) missing(i int) bool { return i < 0 || i >= len(m.disks) }

func (m *model) boot(i int) api.Errno {
	if m.missing(i) {
		return api.ErrArg
	}
	if m.routers[i] != nil {
		return api.ErrState
	}
	r, e := router.New(m.disks[i], uint32(i)+1)
	if e == api.OK {
		m.routers[i] = r
		for k, cost := range m.links {
			if k[0] == i {
				r.Link(k[1], cost)
			} else if k[1] == i {
				r.Link(k[0], cost)
			}
		}
	}
	return e
}

func (m *model) crash(i int, picks []disk.Pick) api.Errno {
	if m.missing(i) {
		return api.ErrArg
	}
	delete(m.routers, i)
	m.disks[i].Crash(picks)
	return api.OK
}

func (m *model) fail(i, after int) api.Errno {
	if m.missing(i) {
		return api.ErrArg
	}
	m.disks[i].Fail(after)
	return api.OK
}

func (m *model) link(a, b, cost int) api.Errno {
	if m.missing(a) || m.missing(b) || a == b || cost < 0 || cost > 1000 {
		return api.ErrArg
	}
	m.links[[2]int{min(a, b), max(a, b)}] = cost
	for i, r := range m.routers {
		if i == a {
			r.Link(b, cost)
		}
		if i == b {
			r.Link(a, cost)
		}
	}
	return api.OK
}

func (m *model) own(i int, p addr.Prefix, on bool) api.Errno {
	if r := m.routers[i]; r != nil {
		return r.Own(p, on)
	}
	return api.ErrState
}

func (m *model) tick(i int) api.Errno {
	r := m.routers[i]
	if r == nil {
		return api.ErrState
	}
	for _, o := range r.Tick() {
		m.way = append(m.way, Packet{i, o.To, o.Data})
	}
	m.way = m.way[:min(len(m.way), 256)]
	return api.OK
}

// take lets a datagram be under way no more.
func (m *model) take(k int) (Packet, api.Errno) {
	if k < 0 || k >= len(m.way) {
		return Packet{}, api.ErrNone
	}
	p := m.way[k]
	m.way = append(slices.Clone(m.way[:k]), m.way[k+1:]...)
	return p, api.OK
}

func (m *model) lose(k int) api.Errno {
	_, e := m.take(k)
	return e
}

func (m *model) again(k int) api.Errno {
	if k < 0 || k >= len(m.way) {
		return api.ErrNone
	}
	if len(m.way) != 256 {
		m.way = append(m.way, m.way[k])
	}
	return api.OK
}

func (m *model) deliver(k, most int) api.Errno {
	p, e := m.take(k)
	if r := m.routers[p.To]; r != nil && e == api.OK {
		b := []byte{}
		for i, c := range p.Data {
			if i < most {
				b = append(b, c)
			}
		}
		r.Receive(p.From, b)
	}
	return e
}

func (m *model) round() {
	for i := range 8 {
		m.tick(i)
	}
	for len(m.way) != 0 {
		m.deliver(0, math.MaxInt)
	}
}

// pair is a Net, and the model of it.
type pair struct {
	t    *testing.T
	name string
	w    *Net
	m    *model
	g    *rand.Rand
	busy bool // whether few datagrams come, and no Rounds go by
}

// check says so if the Net tells anything else than the model does.
func (p *pair) check(what string) {
	p.t.Helper()
	if got := packets(p.w); p.w.Size() != len(p.m.disks) || !slices.EqualFunc(got, p.m.way, samePacket) {
		p.t.Fatalf("%s, %s: under way is %v, want %v", p.name, what, got, p.m.way)
	}
	fibs := p.w.Fibs()
	if len(fibs) != p.w.Size() {
		p.t.Fatalf("%s, %s: Fibs is %v", p.name, what, fibs)
	}
	for i, f := range fibs {
		p.checkMachine(fmt.Sprintf("%s, %s: %d", p.name, what, i), i, f)
	}
}

// checkMachine is check of one machine, of which Fibs tells that.
func (p *pair) checkMachine(what string, i int, f fib.Fib) {
	p.t.Helper()
	a, b := p.w.machines[i].disk, p.m.disks[i]
	for k := range b.Size() {
		x, _ := a.Read(k)
		y, _ := b.Read(k)
		if a.Size() != b.Size() || !bytes.Equal(x, y) {
			p.t.Fatalf("%s: sector %d holds %x, want %x", what, k, x, y)
		}
	}
	r, want := p.w.Router(i), p.m.routers[i]
	if (r == nil) != (want == nil) {
		p.t.Fatalf("%s: Router is %v, want %v", what, r, want)
	}
	if r == nil {
		if len(f) != 0 {
			p.t.Fatalf("%s: Fibs tells %v of what doesn't run", what, f)
		}
		return
	}
	if r.Now() != want.Now() || r.Seq() != want.Seq() || !slices.Equal(r.State().Records(), want.State().Records()) {
		p.t.Fatalf("%s: Now %d, Seq %d, %v; want %d, %d, %v", what, r.Now(), r.Seq(), r.State().Records(), want.Now(), want.Seq(), want.State().Records())
	}
	if g := want.Fib(); !slices.Equal(f, g) {
		p.t.Fatalf("%s: Fib is %v, want %v", what, f, g)
	}
	for _, e := range f {
		x, ok := r.Distance(e.Prefix)
		if y, known := want.Distance(e.Prefix); x != y || ok != known {
			p.t.Fatalf("%s: Distance of %v is %d, %v, want %d, %v", what, e.Prefix, x, ok, y, known)
		}
	}
}

// some is one of a list.
func some[T any](g *rand.Rand, list ...T) T { return list[g.Intn(len(list))] }

// one is a number, most often from 0 to below n.
func (p *pair) one(n int) int {
	if n > 0 && p.g.Intn(20) != 0 {
		return p.g.Intn(n)
	}
	return some(p.g, -1, n, n+1, math.MinInt, math.MaxInt)
}

func (p *pair) picks() []disk.Pick {
	var list []disk.Pick
	for range p.g.Intn(4) {
		list = append(list, disk.Pick{How: p.g.Intn(3), At: p.g.Intn(400), Turn: p.g.Uint32() >> p.g.Intn(32)})
	}
	return list
}

// machine does one thing to a machine of both: what that was, and what they tell.
func (p *pair) machine() (string, api.Errno, api.Errno) {
	i := p.one(p.w.Size())
	switch p.g.Intn(9) {
	case 0, 1:
		return fmt.Sprintf("Boot(%d)", i), p.w.Boot(i), p.m.boot(i)
	case 2:
		picks := p.picks()
		return fmt.Sprintf("Crash(%d, %v)", i, picks), p.w.Crash(i, picks), p.m.crash(i, picks)
	case 3:
		after := p.g.Intn(6) - 1
		return fmt.Sprintf("Fail(%d, %d)", i, after), p.w.Fail(i, after), p.m.fail(i, after)
	case 4, 5:
		n, cost := p.one(p.w.Size()), some(p.g, -1, 0, 1, 2, 3, 5, 8, 1000, 1001)
		return fmt.Sprintf("Link(%d, %d, %d)", i, n, cost), p.w.Link(i, n, cost), p.m.link(i, n, cost)
	case 6:
		x, on := some(p.g, all, ten, tenOne, high, last, addr.Prefix{Addr: 1}), p.g.Intn(3) != 0
		return fmt.Sprintf("Own(%d, %v, %v)", i, x, on), p.w.Own(i, x, on), p.m.own(i, x, on)
	}
	return fmt.Sprintf("Tick(%d)", i), p.w.Tick(i), p.m.tick(i)
}

// datagram does one thing to a datagram of both: what that was, and what they tell.
func (p *pair) datagram() (string, api.Errno, api.Errno) {
	k := p.one(len(p.m.way))
	kinds := 6
	if p.busy {
		kinds = 4
	}
	switch p.g.Intn(kinds) {
	case 0:
		return fmt.Sprintf("Lose(%d)", k), p.w.Lose(k), p.m.lose(k)
	case 1, 2:
		for p.busy && p.g.Intn(8) != 0 {
			p.w.Again(k)
			p.m.again(k)
		}
		return fmt.Sprintf("Again(%d)", k), p.w.Again(k), p.m.again(k)
	}
	most := some(p.g, math.MinInt, -1, 0, 3, 20, 21, 1024, 1024, 1024, 1024, 1024, math.MaxInt)
	return fmt.Sprintf("Deliver(%d, %d)", k, most), p.w.Deliver(k, most), p.m.deliver(k, most)
}

// step does one thing to both, and tells what that was.
func (p *pair) step() string {
	p.t.Helper()
	what, got, want := "Round", api.OK, api.OK
	switch n := p.g.Intn(40); {
	case n == 0 && !p.busy:
		p.w.Round()
		p.m.round()
	case n < 25:
		what, got, want = p.machine()
	default:
		what, got, want = p.datagram()
	}
	if got != want {
		p.t.Fatalf("%s: %s tells %q, want %q", p.name, what, got.Word(), want.Word())
	}
	return what
}

func TestRandomCallsAgainstAModel(t *testing.T) {
	sizes := []int{3, 4, 8, 12, 16}
	most := 0
	for seed := range int64(80) {
		g := rand.New(rand.NewSource(seed))
		n, sectors := int(seed)%8+1, sizes[seed%int64(len(sizes))]
		p := &pair{t, fmt.Sprintf("seed %d", seed), New(n, sectors), newModel(n, sectors), g, seed%3 == 0}
		p.check("New")
		for i := range 300 {
			what := p.step()
			p.check(fmt.Sprintf("%d, %s", i, what))
			most = max(most, p.w.Waiting())
		}
	}
	if most < 256 {
		t.Errorf("at most %d datagrams were under way", most)
	}
}
