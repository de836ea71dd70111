package disk

import (
	"bytes"
	"fmt"
	"math"
	"math/rand"
	"slices"
	"strings"
	"testing"

	"wayfarer/api"
)

// full is a sector of one byte.
func full(c byte) []byte { return bytes.Repeat([]byte{c}, api.Sector) }

// turned is a sector of one byte with some bits turned, counted from the highest bit of the first byte on.
func turned(c byte, bits ...int) []byte {
	b := full(c)
	for _, bit := range bits {
		b[bit/8] ^= 1 << (7 - bit%8)
	}
	return b
}

// holds says so if a sector doesn't hold just these bytes.
func holds(t *testing.T, d *Disk, i int, want []byte) {
	t.Helper()
	if b, e := d.Read(i); e != api.OK || !bytes.Equal(b, want) {
		t.Errorf("Read(%d) = %x, %v, want %x", i, b, e, want)
	}
}

// tells says so if an error isn't the one that is wanted.
func tells(t *testing.T, what string, e, want api.Errno) {
	t.Helper()
	if e != want {
		t.Errorf("%s = %q, want %q", what, e.Word(), want.Word())
	}
}

// written is a disk whose first sectors hold these bytes, not safe yet; when they were safe last, they held 0x10, 0x11 and so on.
func written(n int, cs ...byte) *Disk {
	d := New(n)
	for i := range cs {
		d.Write(i, full(0x10+byte(i)))
	}
	d.Sync()
	for i, c := range cs {
		d.Write(i, full(c))
	}
	return d
}

func TestNew(t *testing.T) {
	for _, c := range []struct{ n, want int }{
		{math.MinInt, 1}, {-512, 1}, {-1, 1}, {0, 1}, {1, 1}, {2, 2}, {3, 3}, {8, 8}, {511, 511},
		{512, 512}, {513, 512}, {1 << 40, 512}, {math.MaxInt, 512},
	} {
		d := New(c.n)
		if d.Size() != c.want {
			t.Errorf("New(%d).Size() = %d, want %d", c.n, d.Size(), c.want)
		}
		for i := range c.want {
			holds(t, d, i, full(0))
		}
		// All is safe: there is no sector that a pick could be for.
		d.Crash(slices.Repeat([]Pick{{2, 0, 1}}, 600))
		for i := range c.want {
			holds(t, d, i, full(0))
		}
	}
}

func TestNoCallFailsAtFirst(t *testing.T) {
	d := New(3)
	for i := range 1000 {
		tells(t, "Write", d.Write(i%3, full(byte(i))), api.OK)
		tells(t, "Sync", d.Sync(), api.OK)
	}
}

func TestReadOfNoSector(t *testing.T) {
	for _, n := range []int{1, 2, 512} {
		d := New(n)
		for _, i := range []int{math.MinInt, -n, -1, n, n + 1, 1 << 32, 1 << 40, math.MaxInt} {
			if b, e := d.Read(i); len(b) != 0 || e != api.ErrArg {
				t.Errorf("of %d: Read(%d) = %x, %v", n, i, b, e)
			}
		}
		holds(t, d, n-1, full(0))
	}
}

func TestReadIsNewMemory(t *testing.T) {
	d := written(2, 1)
	for i := range 2 {
		b, _ := d.Read(i)
		was := slices.Clone(b)
		clear(b)
		b[0] = 9
		b = append(b, 9)
		holds(t, d, i, was)
	}
	b, _ := d.Read(0)
	d.Write(0, full(7))
	d.Sync()
	if !bytes.Equal(b, full(1)) {
		t.Errorf("a Write turned what Read told: %x", b)
	}
}

func TestWrite(t *testing.T) {
	d := New(3)
	tells(t, "Write", d.Write(2, full(5)), api.OK)
	holds(t, d, 0, full(0))
	holds(t, d, 1, full(0))
	holds(t, d, 2, full(5))
	tells(t, "Write", d.Write(2, full(6)), api.OK)
	holds(t, d, 2, full(6))
	each := make([]byte, api.Sector)
	for i := range each {
		each[i] = byte(i + 1)
	}
	tells(t, "Write", d.Write(0, each), api.OK)
	holds(t, d, 0, each)
	d.Sync()
	holds(t, d, 0, each)
	holds(t, d, 1, full(0))
	holds(t, d, 2, full(6))
}

func TestWriteOfWrongArguments(t *testing.T) {
	d := written(3, 1, 2)
	nines := full(9)
	for _, i := range []int{math.MinInt, -3, -1, 3, 4, 1 << 32, math.MaxInt} {
		tells(t, fmt.Sprint("Write of sector ", i), d.Write(i, nines), api.ErrArg)
		tells(t, fmt.Sprint("Write of nothing, of sector ", i), d.Write(i, nil), api.ErrArg)
	}
	for _, n := range []int{0, 1, 47, 49, 96, 4096} {
		for i := range 3 {
			tells(t, fmt.Sprint("Write of bytes ", n), d.Write(i, make([]byte, n)), api.ErrArg)
		}
	}
	tells(t, "Write of nil", d.Write(0, nil), api.ErrArg)
	holds(t, d, 0, full(1))
	holds(t, d, 1, full(2))
	holds(t, d, 2, full(0))
	// They made no sector unsafe: the second pick is for sector 1.
	d.Crash([]Pick{{}, {How: 1}, {How: 1}})
	holds(t, d, 0, full(0x10))
	holds(t, d, 1, full(2))
	holds(t, d, 2, full(0))
}

func TestWriteKeepsAndTurnsNothingOfItsBytes(t *testing.T) {
	d := New(1)
	whole := bytes.Repeat([]byte{3}, 2*api.Sector)
	b := whole[:api.Sector]
	d.Write(0, b)
	if !bytes.Equal(whole, bytes.Repeat([]byte{3}, 2*api.Sector)) {
		t.Errorf("Write turned its bytes: %x", whole)
	}
	b[0], b[47] = 8, 8
	holds(t, d, 0, full(3))
	d.Sync()
	b[1] = 8
	holds(t, d, 0, full(3))
	d.Write(0, b)
	d.Crash([]Pick{{2, 0, 1}})
	if b[0] != 8 || b[1] != 8 || b[2] != 3 {
		t.Errorf("Crash turned what was written: %x", b)
	}
}

func TestDisksAreApart(t *testing.T) {
	d, o := New(2), New(2)
	d.Write(0, full(1))
	d.Fail(0)
	holds(t, o, 0, full(0))
	tells(t, "Sync of the other", o.Sync(), api.OK)
	tells(t, "Sync", d.Sync(), api.ErrIO)
	o.Crash(nil)
	holds(t, d, 0, full(1))
}

// calls does so many Syncs and Writes in turn, and tells which failed.
func calls(t *testing.T, d *Disk, n int) []int {
	t.Helper()
	var failed []int
	for k := range n {
		call := d.Sync
		if k%2 == 1 {
			call = func() api.Errno { return d.Write(0, full(byte(k))) }
		}
		e := call()
		if e != api.OK && e != api.ErrIO {
			t.Errorf("call %d: %q", k, e.Word())
		}
		if e == api.ErrIO {
			failed = append(failed, k)
		}
	}
	return failed
}

func TestFail(t *testing.T) {
	for after := range 20 {
		d := New(1)
		d.Fail(after)
		if got := calls(t, d, 50); !slices.Equal(got, []int{after}) {
			t.Errorf("Fail(%d): the calls %v failed", after, got)
		}
	}
	for _, after := range []int{-1, -2, math.MinInt, 50, 1 << 32, math.MaxInt - 1, math.MaxInt} {
		d := New(1)
		d.Fail(after)
		if got := calls(t, d, 50); len(got) != 0 {
			t.Errorf("Fail(%d): the calls %v failed", after, got)
		}
	}
}

func TestFailHoldsFromItsCallOn(t *testing.T) {
	for _, c := range []struct {
		first, between, second int
		want                   []int
	}{
		{0, 0, -1, nil},
		{0, 0, math.MinInt, nil},
		{5, 3, -5, nil},
		{5, 3, 5, []int{5}},
		{5, 3, 0, []int{0}},
		{0, 0, 4, []int{4}},
		{2, 3, 0, []int{0}},
		{2, 9, 3, []int{3}},
		{-1, 9, 3, []int{3}},
		{-9, 0, 0, []int{0}},
	} {
		d := New(1)
		d.Fail(c.first)
		calls(t, d, c.between)
		d.Fail(c.second)
		if got := calls(t, d, 20); !slices.Equal(got, c.want) {
			t.Errorf("Fail(%d), %d calls, Fail(%d): then %v failed, want %v", c.first, c.between, c.second, got, c.want)
		}
	}
}

func TestFailCountsNeitherReadsNorWrongWrites(t *testing.T) {
	for after := range 3 {
		d := New(2)
		d.Fail(after)
		wrong := func() {
			for range 5 {
				tells(t, "Write of no sector", d.Write(2, full(1)), api.ErrArg)
				tells(t, "Write of no sector", d.Write(-1, full(1)), api.ErrArg)
				tells(t, "Write of too few bytes", d.Write(0, full(1)[1:]), api.ErrArg)
				d.Read(0)
				d.Read(2)
				d.Size()
			}
		}
		for range after {
			wrong()
			tells(t, "Write", d.Write(0, full(1)), api.OK)
		}
		wrong()
		tells(t, "Write that fails", d.Write(0, full(2)), api.ErrIO)
		wrong()
		tells(t, "Write", d.Write(0, full(3)), api.OK)
	}
}

func TestReadDoesNotFail(t *testing.T) {
	d := written(2, 1)
	d.Fail(0)
	holds(t, d, 0, full(1))
	holds(t, d, 1, full(0))
	tells(t, "Sync", d.Sync(), api.ErrIO)
}

func TestWriteThatFails(t *testing.T) {
	d := written(3, 1, 2)
	for i := range 3 {
		d.Fail(0)
		tells(t, "Write", d.Write(i, full(9)), api.ErrIO)
	}
	holds(t, d, 0, full(1))
	holds(t, d, 1, full(2))
	holds(t, d, 2, full(0))
	// Sector 2 is safe still; the others go by what was written ahead of it.
	d.Crash([]Pick{{}, {How: 1}, {How: 1}})
	holds(t, d, 0, full(0x10))
	holds(t, d, 1, full(2))
	holds(t, d, 2, full(0))
}

func TestSync(t *testing.T) {
	d := written(4, 1, 2, 3)
	tells(t, "Sync", d.Sync(), api.OK)
	d.Crash([]Pick{{2, 0, 1}, {2, 0, 1}, {2, 0, 1}, {2, 0, 1}})
	for i, c := range []byte{1, 2, 3, 0} {
		holds(t, d, i, full(c))
	}
	tells(t, "Sync of what is safe", d.Sync(), api.OK)
	d.Write(1, full(7))
	d.Crash(nil)
	holds(t, d, 1, full(2))
}

func TestSyncThatFails(t *testing.T) {
	d := written(4, 1, 2, 3)
	d.Fail(0)
	tells(t, "Sync", d.Sync(), api.ErrIO)
	for i, c := range []byte{1, 2, 3, 0} {
		holds(t, d, i, full(c))
	}
	d.Crash([]Pick{{}, {How: 1}, {}, {How: 1}})
	for i, c := range []byte{0x10, 2, 0x12, 0} {
		holds(t, d, i, full(c))
	}
}

func TestCrashByThePicks(t *testing.T) {
	whole := make([]int, 32)
	for i := range whole {
		whole[i] = i
	}
	for _, c := range []struct {
		p    Pick
		want []byte
	}{
		{Pick{}, full(0x10)},
		{Pick{0, 5, 0xffffffff}, full(0x10)},
		{Pick{1, 0, 0}, full(0xa5)},
		{Pick{1, 5, 0xffffffff}, full(0xa5)},
		{Pick{2, 0, 0}, full(0xa5)},
		{Pick{2, 0, 1}, turned(0xa5, 0)},
		{Pick{3, 0, 1}, turned(0xa5, 0)},
		{Pick{-1, 0, 1}, turned(0xa5, 0)},
		{Pick{256, 0, 1}, turned(0xa5, 0)},
		{Pick{1 << 32, 0, 1}, turned(0xa5, 0)},
		{Pick{1<<32 + 1, 0, 1}, turned(0xa5, 0)},
		{Pick{math.MaxInt, 0, 1}, turned(0xa5, 0)},
		{Pick{math.MinInt, 0, 1}, turned(0xa5, 0)},
		{Pick{2, 0, 1 << 31}, turned(0xa5, 31)},
		{Pick{2, 0, 0xffffffff}, turned(0xa5, whole...)},
		{Pick{2, 7, 0b1011}, turned(0xa5, 7, 8, 10)},
		{Pick{2, 383, 1}, turned(0xa5, 383)},
		// As far as the sector has bits, and not from its first one on again.
		{Pick{2, 383, 0xffffffff}, turned(0xa5, 383)},
		{Pick{2, 383, 0xfffffffe}, full(0xa5)},
		{Pick{2, 352, 1 << 31}, turned(0xa5, 383)},
		{Pick{2, 353, 1 << 31}, full(0xa5)},
		{Pick{2, 380, 0xffffffff}, turned(0xa5, 380, 381, 382, 383)},
		// At modulo 384, as a uint.
		{Pick{2, 384, 1}, turned(0xa5, 0)},
		{Pick{2, 385, 1}, turned(0xa5, 1)},
		{Pick{2, 767, 3}, turned(0xa5, 383)},
		{Pick{2, 384000 + 9, 3}, turned(0xa5, 9, 10)},
		{Pick{2, -1, 1}, turned(0xa5, 255)},
		{Pick{2, -256, 1}, turned(0xa5, 0)},
		{Pick{2, -257, 3}, turned(0xa5, 383)},
		{Pick{2, math.MaxInt, 1}, turned(0xa5, 127)},
		{Pick{2, math.MinInt, 1}, turned(0xa5, 128)},
	} {
		d := written(2, 0xa5)
		d.Crash([]Pick{c.p})
		holds(t, d, 0, c.want)
		holds(t, d, 1, full(0))
	}
}

func TestCrashTurnsEachBit(t *testing.T) {
	for at := range 384 {
		for k := range 32 {
			d := New(1)
			d.Write(0, full(0x3c))
			d.Crash([]Pick{{2, at, 1 << k}})
			want := full(0x3c)
			if at+k < 384 {
				want = turned(0x3c, at+k)
			}
			holds(t, d, 0, want)
		}
	}
}

func TestCrashByRisingNumbers(t *testing.T) {
	d := New(512)
	order := rand.New(rand.NewSource(4)).Perm(512)
	for _, i := range order {
		if i%3 == 0 {
			d.Write(i, full(byte(i%251)))
		}
	}
	var picks []Pick
	for k := range 171 {
		picks = append(picks, Pick{2, k, 1})
	}
	d.Crash(picks)
	for i := range 512 {
		want := full(0)
		if i%3 == 0 {
			want = turned(byte(i%251), i/3)
		}
		holds(t, d, i, want)
	}
}

func TestCrashWithFewerAndMorePicks(t *testing.T) {
	for n := range 7 {
		d := written(5, 1, 2, 3)
		d.Crash(slices.Repeat([]Pick{{How: 1}}, n))
		for i := range 5 {
			want := byte(0)
			if i < 3 {
				want = 0x10 + byte(i)
			}
			if i < 3 && i < n {
				want = byte(i + 1)
			}
			holds(t, d, i, full(want))
		}
	}
}

func TestCrashOfWhatIsWrittenAsItWas(t *testing.T) {
	d := New(3)
	d.Write(0, full(0))
	d.Write(2, full(4))
	// Sector 0 holds what it held, and yet it isn't safe: the first pick is for it.
	d.Crash([]Pick{{How: 1}, {2, 0, 1}})
	holds(t, d, 0, full(0))
	holds(t, d, 1, full(0))
	holds(t, d, 2, turned(4, 0))
	d.Write(2, turned(4, 0))
	d.Crash([]Pick{{2, 0, 1}})
	holds(t, d, 2, full(4))
}

func TestCrashOfWhatIsWrittenTwice(t *testing.T) {
	twice := func() *Disk {
		d := written(1, 1)
		d.Write(0, full(2))
		d.Write(0, full(3))
		return d
	}
	for _, c := range []struct {
		picks []Pick
		want  []byte
	}{
		{nil, full(0x10)},
		{[]Pick{{}, {How: 1}}, full(0x10)},
		{[]Pick{{How: 1}, {}}, full(3)},
		{[]Pick{{2, 8, 3}, {}}, turned(3, 8, 9)},
	} {
		d := twice()
		d.Crash(c.picks)
		holds(t, d, 0, c.want)
	}
}

func TestAllIsSafeBehindACrash(t *testing.T) {
	d := written(4, 1, 2, 3)
	d.Crash([]Pick{{}, {How: 1}, {2, 0, 1}})
	for _, picks := range [][]Pick{nil, {{How: 1}, {How: 1}, {How: 1}}, {{2, 9, 9}, {2, 9, 9}, {2, 9, 9}}} {
		d.Crash(picks)
		holds(t, d, 0, full(0x10))
		holds(t, d, 1, full(2))
		holds(t, d, 2, turned(3, 0))
		holds(t, d, 3, full(0))
	}
	d.Write(2, full(8))
	d.Crash(nil)
	holds(t, d, 2, turned(3, 0))
	if d.Size() != 4 {
		t.Errorf("Size = %d", d.Size())
	}
}

func TestNoCallFailsBehindACrash(t *testing.T) {
	for _, after := range []int{0, 1, 5, -1} {
		d := New(1)
		d.Fail(after)
		d.Crash(nil)
		if got := calls(t, d, 20); len(got) != 0 {
			t.Errorf("Fail(%d), Crash: the calls %v failed", after, got)
		}
		d.Fail(2)
		if got := calls(t, d, 20); !slices.Equal(got, []int{2}) {
			t.Errorf("Crash, Fail(2): the calls %v failed", got)
		}
	}
}

func TestCrashLeavesThePicks(t *testing.T) {
	picks := []Pick{{2, 1000, 7}, {1, -4, 5}, {0, 3, 9}}
	was := slices.Clone(picks)
	d := written(2, 1, 2)
	d.Crash(picks)
	if !slices.Equal(picks, was) {
		t.Errorf("Crash turned its picks: %v", picks)
	}
	picks[0], picks[1] = Pick{}, Pick{}
	holds(t, d, 0, turned(1, 1000%384, 1000%384+1, 1000%384+2))
	holds(t, d, 1, full(2))
}

// A slow disk: each sector as a text of noughts and ones, as it was when it was safe last, and as it is.
type slow struct {
	safe, now []string
	not       []bool // safe
	left      []bool // of the next Writes and Syncs: whether they fail
}

func bitsOf(b []byte) string {
	s := ""
	for _, c := range b {
		s += fmt.Sprintf("%08b", c)
	}
	return s
}

func newSlow(n int) *slow {
	nought := strings.Repeat("0", 8*api.Sector)
	return &slow{safe: slices.Repeat([]string{nought}, n), now: slices.Repeat([]string{nought}, n), not: make([]bool, n)}
}

func (s *slow) fail(after int) {
	s.left = nil
	if after >= 0 {
		s.left = append(make([]bool, after), true)
	}
}

func (s *slow) fails() bool {
	if len(s.left) == 0 {
		return false
	}
	f := s.left[0]
	s.left = s.left[1:]
	return f
}

func (s *slow) write(i int, b []byte) api.Errno {
	if i < 0 || i >= len(s.now) || len(b) != api.Sector {
		return api.ErrArg
	}
	if s.fails() {
		return api.ErrIO
	}
	s.now[i], s.not[i] = bitsOf(b), true
	return api.OK
}

func (s *slow) sync() api.Errno {
	if s.fails() {
		return api.ErrIO
	}
	copy(s.safe, s.now)
	clear(s.not)
	return api.OK
}

func (s *slow) crash(picks []Pick) {
	k := 0
	for i := range s.now {
		if !s.not[i] {
			continue
		}
		p := Pick{}
		if k < len(picks) {
			p = picks[k]
		}
		k++
		switch {
		case p.How == 0:
			s.now[i] = s.safe[i]
		case p.How != 1:
			t := []byte(s.now[i])
			for at := int(uint(p.At) % 384); at < 384; at++ {
				t[at] ^= byte(p.Turn & 1)
				p.Turn >>= 1
			}
			s.now[i] = string(t)
		}
	}
	copy(s.safe, s.now)
	clear(s.not)
	s.left = nil
}

func somePicks(r *rand.Rand) []Pick {
	picks := make([]Pick, r.Intn(8))
	for i := range picks {
		picks[i] = Pick{How: r.Intn(4), At: r.Intn(400), Turn: r.Uint32()}
		if r.Intn(4) == 0 {
			picks[i].How, picks[i].At = -picks[i].How, int(r.Uint64())
		}
	}
	return picks
}

// step does one and the same to both disks.
func step(t *testing.T, r *rand.Rand, d *Disk, s *slow) {
	t.Helper()
	switch r.Intn(12) {
	case 0:
		picks := somePicks(r)
		d.Crash(picks)
		s.crash(picks)
	case 1:
		after := r.Intn(8) - 1
		d.Fail(after)
		s.fail(after)
	case 2, 3:
		tells(t, "Sync", d.Sync(), s.sync())
	default:
		b := make([]byte, api.Sector)
		if r.Intn(10) == 0 {
			b = b[r.Intn(3):]
		}
		r.Read(b)
		i := r.Intn(len(s.now)+2) - 1
		tells(t, "Write", d.Write(i, b), s.write(i, b))
	}
}

func TestWhateverHappens(t *testing.T) {
	r := rand.New(rand.NewSource(5))
	for range 100 {
		n := 1 + r.Intn(9)
		d, s := New(n), newSlow(n)
		for k := range 100 {
			step(t, r, d, s)
			for i := range n {
				if b, e := d.Read(i); e != api.OK || bitsOf(b) != s.now[i] {
					t.Fatalf("step %d: sector %d holds %x, %v", k, i, b, e)
				}
			}
			if t.Failed() {
				return
			}
		}
	}
}
