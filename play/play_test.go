package play

import (
	"fmt"
	"math"
	"slices"
	"strings"
	"testing"

	"wayfarer/addr"
	"wayfarer/api"
	"wayfarer/disk"
	"wayfarer/net"
	"wayfarer/script"
)

var (
	ten    = addr.Prefix{Addr: 0x0a000000, Len: 8}
	tenOne = addr.Prefix{Addr: 0x0a010000, Len: 16}
)

// view is all that a net tells, as a text.
func view(w *net.Net) string {
	var b strings.Builder
	for k := range w.Waiting() {
		p, _ := w.Packet(k)
		fmt.Fprintln(&b, p)
	}
	fibs := w.Fibs()
	for i := range w.Size() {
		r := w.Router(i)
		if r == nil {
			fmt.Fprintln(&b, i, "down", fibs[i])
			continue
		}
		fmt.Fprintln(&b, i, r.Now(), r.Seq(), r.State().Lease(), r.State().Records(), fibs[i])
		for _, e := range fibs[i] {
			n, ok := r.Distance(e.Prefix)
			fmt.Fprintln(&b, n, ok)
		}
	}
	return b.String()
}

// same says so if two nets don't tell the same.
func same(t *testing.T, what string, got, want *net.Net) {
	t.Helper()
	if a, b := view(got), view(want); a != b {
		t.Errorf("%s: the net is\n%s\nwant\n%s", what, a, b)
	}
}

// tells says so if an event doesn't tell that error.
func tells(t *testing.T, w *net.Net, e script.Event, want api.Errno) {
	t.Helper()
	if got := Do(w, e); got != want {
		t.Errorf("%+v tells %q, want %q", e, got.Word(), want.Word())
	}
}

// busy is a net of three machines, of which the third one doesn't run, with links, prefixes, and datagrams under way.
func busy() *net.Net {
	w := net.New(3, 64)
	w.Boot(0)
	w.Boot(1)
	w.Link(0, 1, 5)
	w.Link(1, 2, 7)
	w.Own(0, ten, true)
	w.Own(1, tenOne, true)
	w.Round()
	w.Tick(0)
	w.Tick(1)
	w.Tick(0)
	return w
}

// Each kind does what the net's call of its name does, and tells its error.
func TestDo(t *testing.T) {
	const pick = "\x01\x00\x00\x00\x00\x00"
	for _, c := range []struct {
		e    script.Event
		do   func(w *net.Net) api.Errno
		want api.Errno
	}{
		{script.Event{Kind: script.Boot, I: 2}, func(w *net.Net) api.Errno { return w.Boot(2) }, api.OK},
		{script.Event{Kind: script.Boot}, func(w *net.Net) api.Errno { return w.Boot(0) }, api.ErrState},
		{script.Event{Kind: script.Boot, I: 3}, func(w *net.Net) api.Errno { return w.Boot(3) }, api.ErrArg},
		{script.Event{Kind: script.Crash, I: 1}, func(w *net.Net) api.Errno { return w.Crash(1, nil) }, api.OK},
		{script.Event{Kind: script.Crash, I: 1, Picks: pick}, func(w *net.Net) api.Errno { return w.Crash(1, []disk.Pick{{How: 1}}) }, api.OK},
		{script.Event{Kind: script.Crash, I: 2}, func(w *net.Net) api.Errno { return w.Crash(2, nil) }, api.OK},
		{script.Event{Kind: script.Crash, I: 65536}, func(w *net.Net) api.Errno { return w.Crash(65536, nil) }, api.ErrArg},
		{script.Event{Kind: script.Fail, I: 1, N: 2}, func(w *net.Net) api.Errno { return w.Fail(1, 2) }, api.OK},
		{script.Event{Kind: script.Fail, I: 3}, func(w *net.Net) api.Errno { return w.Fail(3, 0) }, api.ErrArg},
		{script.Event{Kind: script.Link, I: 0, K: 2, N: 9}, func(w *net.Net) api.Errno { return w.Link(0, 2, 9) }, api.OK},
		{script.Event{Kind: script.Link, I: 1, K: 0}, func(w *net.Net) api.Errno { return w.Link(1, 0, 0) }, api.OK},
		{script.Event{Kind: script.Link, I: 1, K: 1, N: 1}, func(w *net.Net) api.Errno { return w.Link(1, 1, 1) }, api.ErrArg},
		{script.Event{Kind: script.Link, I: 0, K: 1, N: 1000}, func(w *net.Net) api.Errno { return w.Link(0, 1, 1000) }, api.OK},
		{script.Event{Kind: script.Link, I: 0, K: 1, N: 1001}, func(w *net.Net) api.Errno { return w.Link(0, 1, 1001) }, api.ErrArg},
		{script.Event{Kind: script.Own, I: 1, Prefix: addr.Prefix{}}, func(w *net.Net) api.Errno { return w.Own(1, addr.Prefix{}, true) }, api.OK},
		{script.Event{Kind: script.Own, I: 1, Prefix: tenOne}, func(w *net.Net) api.Errno { return w.Own(1, tenOne, true) }, api.ErrState},
		{script.Event{Kind: script.Own, I: 2, Prefix: tenOne}, func(w *net.Net) api.Errno { return w.Own(2, tenOne, true) }, api.ErrState},
		{script.Event{Kind: script.Off, I: 1, Prefix: tenOne}, func(w *net.Net) api.Errno { return w.Own(1, tenOne, false) }, api.OK},
		{script.Event{Kind: script.Off, I: 1, Prefix: ten}, func(w *net.Net) api.Errno { return w.Own(1, ten, false) }, api.ErrNone},
		{script.Event{Kind: script.Off, I: 2, Prefix: ten}, func(w *net.Net) api.Errno { return w.Own(2, ten, false) }, api.ErrState},
		{script.Event{Kind: script.Tick, I: 1}, func(w *net.Net) api.Errno { return w.Tick(1) }, api.OK},
		{script.Event{Kind: script.Tick, I: 2}, func(w *net.Net) api.Errno { return w.Tick(2) }, api.ErrState},
		{script.Event{Kind: script.Deliver, K: 1, N: 1024}, func(w *net.Net) api.Errno { return w.Deliver(1, 1024) }, api.OK},
		{script.Event{Kind: script.Deliver, N: 5}, func(w *net.Net) api.Errno { return w.Deliver(0, 5) }, api.OK},
		{script.Event{Kind: script.Deliver, K: 2}, func(w *net.Net) api.Errno { return w.Deliver(2, 0) }, api.OK},
		{script.Event{Kind: script.Deliver, K: 99, N: 1}, func(w *net.Net) api.Errno { return w.Deliver(99, 1) }, api.ErrNone},
		{script.Event{Kind: script.Lose, K: 1}, func(w *net.Net) api.Errno { return w.Lose(1) }, api.OK},
		{script.Event{Kind: script.Lose, K: 99}, func(w *net.Net) api.Errno { return w.Lose(99) }, api.ErrNone},
		{script.Event{Kind: script.Again, K: 1}, func(w *net.Net) api.Errno { return w.Again(1) }, api.OK},
		{script.Event{Kind: script.Again, K: 99}, func(w *net.Net) api.Errno { return w.Again(99) }, api.ErrNone},
		{script.Event{Kind: script.Round}, func(w *net.Net) api.Errno { w.Round(); return api.OK }, api.OK},
	} {
		got, want := busy(), busy()
		tells(t, got, c.e, c.want)
		if e := c.do(want); e != c.want {
			t.Fatalf("%+v: the net tells %q, want %q", c.e, e.Word(), c.want.Word())
		}
		goesOn(t, fmt.Sprintf("%+v", c.e), got, want)
	}
}

// goesOn says so if two nets don't tell the same, or what happens next shows that something else was done to their links or disks.
func goesOn(t *testing.T, what string, got, want *net.Net) {
	t.Helper()
	for i := range 4 {
		same(t, fmt.Sprintf("%s, and %d Rounds", what, i), got, want)
		for k := range 3 {
			a, b := got.Boot(k), want.Boot(k)
			p := addr.Prefix{Len: i + 1}
			if x, y := got.Own(k, p, true), want.Own(k, p, true); a != b || x != y {
				t.Errorf("%s, and %d Rounds: Boot(%d) tells %q, want %q; Own %q, want %q", what, i, k, a.Word(), b.Word(), x.Word(), y.Word())
			}
		}
		got.Round()
		want.Round()
	}
}

// wrong is events that aren't Right, though most of them are of things that could be done.
func wrong() []script.Event {
	return []script.Event{
		{Kind: -1}, {Kind: 11}, {Kind: 255}, {Kind: math.MinInt}, {Kind: math.MaxInt},
		{Kind: script.Boot, I: 2, K: 1}, {Kind: script.Boot, I: -1}, {Kind: script.Boot, I: 65537},
		{Kind: script.Crash, I: 1, Picks: "12345"}, {Kind: script.Crash, I: 1, N: 1}, {Kind: script.Crash, I: 1, Picks: strings.Repeat("123456", 41)},
		{Kind: script.Fail, I: 1, N: -1}, {Kind: script.Fail, I: 1, N: 65537}, {Kind: script.Fail, I: 1, K: 1},
		{Kind: script.Link, I: 0, K: 2, N: 9, Prefix: ten}, {Kind: script.Link, I: 0, K: 2, N: -1},
		{Kind: script.Own, I: 1, Prefix: addr.Prefix{Addr: 1}}, {Kind: script.Own, I: 1, Prefix: addr.Prefix{Len: 33}}, {Kind: script.Own, I: 1, Prefix: ten, N: 1},
		{Kind: script.Off, I: 1, Prefix: tenOne, K: 1}, {Kind: script.Off, I: 1, Prefix: addr.Prefix{Len: -1}},
		{Kind: script.Tick, I: 1, N: 1}, {Kind: script.Tick, I: 1, Picks: "123456"}, {Kind: script.Tick, I: 1, Prefix: ten},
		{Kind: script.Deliver, K: 1, N: 65537}, {Kind: script.Deliver, K: 1, N: -1}, {Kind: script.Deliver, I: 1, K: 1, N: 9}, {Kind: script.Deliver, K: -1},
		{Kind: script.Lose, K: 1, N: 1}, {Kind: script.Lose, K: -1}, {Kind: script.Lose, I: 1},
		{Kind: script.Again, K: 1, N: 1}, {Kind: script.Again, K: -1}, {Kind: script.Again, I: 1},
		{Kind: script.Round, I: 1}, {Kind: script.Round, K: 1}, {Kind: script.Round, N: 1}, {Kind: script.Round, Prefix: ten}, {Kind: script.Round, Picks: "123456"},
	}
}

func TestDoOfWhatIsntRight(t *testing.T) {
	for _, e := range wrong() {
		got, want := busy(), busy()
		tells(t, got, e, api.ErrArg)
		goesOn(t, fmt.Sprintf("%+v", e), got, want)
	}
}

// That an event isn't Right is told of any net, also where the net's call would tell another error.
func TestDoOfWhatIsntRightIsToldFirst(t *testing.T) {
	w := net.New(1, 1)
	tells(t, w, script.Event{Kind: script.Tick}, api.ErrState)
	tells(t, w, script.Event{Kind: script.Tick, N: 1}, api.ErrArg)
	tells(t, w, script.Event{Kind: script.Own, Prefix: addr.Prefix{Addr: 1}}, api.ErrArg)
	tells(t, w, script.Event{Kind: script.Lose}, api.ErrNone)
	tells(t, w, script.Event{Kind: script.Lose, K: -1}, api.ErrArg)
	tells(t, w, script.Event{Kind: script.Lose, K: 65537}, api.ErrArg)
}

// A crash's picks come to the disk: of each, what becomes of an Own that was written, but isn't safe.
func TestCrashChooses(t *testing.T) {
	for _, c := range []struct {
		picks string
		own   bool
	}{
		{"", false},
		{"\x00\x00\x00\x00\x00\x00", false},
		{"\x01\x00\x00\x00\x00\x00", true},
		{"\x01\x00\xff\xff\xff\xff", true},
		{"\x02\x00\x00\x00\x00\x00", true},
		{"\x02\x00\x00\x00\x00\x01", false},
		{"\xff\x80\x00\x00\x01\x00", false},
		// Behind the bit 382, the last but one, there is one bit more.
		{"\x02\xbf\xff\xff\xff\xfc", true},
		{"\x02\xbf\x00\x00\x00\x02", false},
		{"\x00\x00\x00\x00\x00\x00\x01\x00\x00\x00\x00\x00", false},
		{"\x01\x00\x00\x00\x00\x00\x00\x00\x00\x00\x00\x00", true},
	} {
		w, came := Events(1, 8, []script.Event{
			{Kind: script.Boot},
			{Kind: script.Fail, N: 1},
			{Kind: script.Own, Prefix: ten},
			{Kind: script.Crash, Picks: c.picks},
			{Kind: script.Boot},
		})
		if !slices.Equal(came, []api.Errno{api.OK, api.OK, api.ErrIO, api.OK, api.OK}) {
			t.Fatalf("%q: %v", c.picks, came)
		}
		if on, _ := w.Router(0).State().Own(ten); on != c.own {
			t.Errorf("%q: behind the crash it is its own: %v", c.picks, on)
		}
	}
}

// mixed is some events, and the error that each tells; one of them isn't Right.
func mixed() ([]script.Event, []api.Errno) {
	return []script.Event{
		{Kind: script.Tick},
		{Kind: script.Boot},
		{Kind: script.Boot},
		{Kind: script.Boot, I: 1},
		{Kind: script.Boot, I: 2},
		{Kind: script.Link, I: 0, K: 1, N: 300},
		{Kind: script.Own, I: 1, Prefix: ten},
		{Kind: script.Tick, I: 1, K: 1},
		{Kind: script.Round},
		{Kind: script.Deliver},
		{Kind: script.Off, I: 0, Prefix: ten},
		{Kind: script.Tick, I: 1},
		{Kind: script.Again},
		{Kind: script.Lose, K: 1},
	}, []api.Errno{
		api.ErrState, api.OK, api.ErrState, api.OK, api.ErrArg, api.OK, api.OK, api.ErrArg, api.OK, api.ErrNone, api.ErrNone, api.OK, api.OK, api.OK,
	}
}

// The example of the chapter: of what happens twice, the second one is told an error.
func TestEvents(t *testing.T) {
	w, came := Events(1, 8, []script.Event{{Kind: script.Boot}, {Kind: script.Boot}})
	if len(came) != 2 || came[0].Word() != "ok" || came[1].Word() != "state" || w.Router(0) == nil {
		t.Errorf("the example tells %v", came)
	}
	list, want := mixed()
	w, came = Events(2, 64, list)
	if !slices.Equal(came, want) {
		t.Errorf("Events tells %v, want %v", came, want)
	}
	if d, ok := w.Router(0).Distance(ten); !ok || d != 300 || w.Waiting() != 1 {
		t.Errorf("Distance is %d, %v; %d are under way", d, ok, w.Waiting())
	}
	if again, _ := mixed(); !slices.Equal(list, again) {
		t.Error("Events turned what it was given")
	}
}

// How many machines and sectors are such as layer 12's New takes: a script's bounds don't count.
func TestEventsOfAnyNet(t *testing.T) {
	boots := []script.Event{{Kind: script.Boot}, {Kind: script.Boot, I: 1}, {Kind: script.Boot, I: 7}, {Kind: script.Boot, I: 8}}
	for _, c := range []struct {
		n, sectors, size int
		want             []api.Errno
	}{
		{2, 8, 2, []api.Errno{api.OK, api.OK, api.ErrArg, api.ErrArg}},
		{0, 8, 1, []api.Errno{api.OK, api.ErrArg, api.ErrArg, api.ErrArg}},
		{math.MinInt, 4, 1, []api.Errno{api.OK, api.ErrArg, api.ErrArg, api.ErrArg}},
		{9, 513, 8, []api.Errno{api.OK, api.OK, api.OK, api.ErrArg}},
		{math.MaxInt, math.MaxInt, 8, []api.Errno{api.OK, api.OK, api.OK, api.ErrArg}},
		{8, 3, 8, []api.Errno{api.ErrArg, api.ErrArg, api.ErrArg, api.ErrArg}},
		{8, 0, 8, []api.Errno{api.ErrArg, api.ErrArg, api.ErrArg, api.ErrArg}},
		{8, math.MinInt, 8, []api.Errno{api.ErrArg, api.ErrArg, api.ErrArg, api.ErrArg}},
	} {
		w, came := Events(c.n, c.sectors, boots)
		if w.Size() != c.size || !slices.Equal(came, c.want) {
			t.Errorf("Events(%d, %d) of boots: %d machines, %v, want %d, %v", c.n, c.sectors, w.Size(), came, c.size, c.want)
		}
		w, came = Events(c.n, c.sectors, nil)
		if w == nil || w.Size() != c.size || len(came) != 0 {
			t.Errorf("Events(%d, %d) of none: %v", c.n, c.sectors, came)
		}
		same(t, "of none", w, net.New(c.n, c.sectors))
	}
}

// No event is one too many for Events.
func TestEventsOfMany(t *testing.T) {
	list := make([]script.Event, 10000)
	w, came := Events(1, 8, list)
	if len(came) != len(list) || came[0] != api.OK || came[1] != api.ErrState || came[9999] != api.ErrState || w.Router(0) == nil {
		t.Errorf("%d errors are told", len(came))
	}
}

// plays says so if bytes don't tell these errors, or stop elsewhere.
func plays(t *testing.T, what string, b []byte, came []api.Errno, at int, err api.Errno) *net.Net {
	t.Helper()
	was := slices.Clone(b)
	w, got, gotAt, e := Bytes(b)
	if !slices.Equal(got, came) || gotAt != at || e != err {
		t.Errorf("%s: Bytes tells %d: %.99v, %d, %q, want %d: %.99v, %d, %q", what, len(got), got, gotAt, e.Word(), len(came), came, at, err.Word())
	}
	if !slices.Equal(b, was) {
		t.Errorf("%s: Bytes turned what it was given", what)
	}
	return w
}

func encoded(t *testing.T, n, sectors int, list []script.Event) []byte {
	t.Helper()
	b, e := script.Encode(n, sectors, list)
	if e != api.OK {
		t.Fatalf("Encode tells %q", e.Word())
	}
	return b
}

func TestBytes(t *testing.T) {
	list, want := mixed()
	// What isn't Right is in no script.
	list, want = slices.Delete(list, 7, 8), slices.Delete(want, 7, 8)
	b := encoded(t, 2, 64, list)
	for _, c := range []struct {
		what   string
		behind string
		err    api.Errno
	}{
		{"just a script", "", api.OK},
		{"a script and a byte", "\x63", api.ErrForm},
		{"a script and no event", "\x63" + strings.Repeat("\x00", 15), api.ErrForm},
		{"a script and what isn't Right", "\x0a\x00\x00\x01" + strings.Repeat("\x00", 12) + strings.Repeat("\x00", 16), api.ErrForm},
	} {
		w := plays(t, c.what, append(slices.Clone(b), c.behind...), want, len(b), c.err)
		twin, _ := Events(2, 64, list)
		same(t, c.what, w, twin)
	}
}

// Of a script that is cut off all events ahead of the cut happen.
func TestBytesOfWhatIsCutOff(t *testing.T) {
	list, want := mixed()
	list, want = slices.Delete(list, 7, 8), slices.Delete(want, 7, 8)
	b := encoded(t, 2, 64, list)
	for n := 3; n <= len(b); n++ {
		k := (n - 3) / 16
		err := api.ErrForm
		if n == 3+16*k {
			err = api.OK
		}
		w := plays(t, fmt.Sprintf("%d bytes", n), b[:n], want[:k], 3+16*k, err)
		twin, _ := Events(2, 64, list[:k])
		same(t, fmt.Sprintf("%d bytes", n), w, twin)
	}
}

func TestBytesOfNoEvents(t *testing.T) {
	w := plays(t, "a head", []byte("\x05\x00\x04"), nil, 3, api.OK)
	if w == nil || w.Size() != 5 || w.Boot(4) != api.OK {
		t.Error("of a head there isn't its net")
	}
	w = plays(t, "a head of few sectors, and a byte", []byte("\x08\x00\x03\x00"), nil, 3, api.ErrForm)
	if w == nil || w.Size() != 8 || w.Boot(4) != api.ErrArg {
		t.Error("of a head there isn't its net")
	}
}

func TestBytesOfNoNet(t *testing.T) {
	event := strings.Repeat("\x00", 16)
	for _, s := range []string{"", "\x01\x00", "\x00\x00\x09", "\x09\x00\x09", "\x01\x02\x01", "\x01\x00\x00", "\x00\x00\x09" + event, "\x01\x00\x00" + event} {
		if w := plays(t, fmt.Sprintf("%q", s), []byte(s), nil, 0, api.ErrForm); w != nil {
			t.Errorf("%q: there is a net", s)
		}
	}
	for _, n := range []int{1<<18 + 1, 1 << 20} {
		b := make([]byte, n)
		copy(b, "\x01\x00\x09")
		if w := plays(t, "too many bytes", b, nil, 0, api.ErrMany); w != nil {
			t.Error("too many bytes: there is a net")
		}
	}
}

// Of too many events as many happen as there may be.
func TestBytesOfManyEvents(t *testing.T) {
	list := slices.Repeat([]script.Event{{Kind: script.Tick}}, 8192)
	list[0] = script.Event{Kind: script.Boot}
	b := encoded(t, 1, 8, list)
	w := plays(t, "one more", append(slices.Clone(b), b[len(b)-16:]...), make([]api.Errno, 8192), len(b), api.ErrMany)
	if n := w.Router(0).Now(); n != 8191 {
		t.Errorf("%d ticks went by", n)
	}
}
