package script

import (
	"fmt"
	"math"
	"slices"
	"strings"
	"testing"

	"wayfarer/addr"
	"wayfarer/api"
	"wayfarer/disk"
)

var ten = addr.Prefix{Addr: 0x0a000000, Len: 8}

// six is the bytes of one pick.
const six = "\x02\x03\x00\x00\x01\x00"

// has is what each kind has, a letter a field: A is Prefix, P is Picks.
func has() []string {
	return []string{
		Boot: "I", Crash: "IP", Fail: "IN", Link: "IKN", Own: "IA", Off: "IA",
		Tick: "I", Deliver: "KN", Lose: "K", Again: "K", Round: "",
	}
}

// some is one event of each kind that has all that it may have.
func some() []Event {
	return []Event{
		{Kind: Boot, I: 1},
		{Kind: Crash, I: 1, Picks: six},
		{Kind: Fail, I: 1, N: 3},
		{Kind: Link, I: 1, K: 2, N: 3},
		{Kind: Own, I: 1, Prefix: ten},
		{Kind: Off, I: 1, Prefix: ten},
		{Kind: Tick, I: 1},
		{Kind: Deliver, K: 2, N: 3},
		{Kind: Lose, K: 2},
		{Kind: Again, K: 2},
		{Kind: Round},
	}
}

// isRight says so if an event is Right, and is to be none, or the other way round; and so if Encode doesn't agree.
func isRight(t *testing.T, e Event, want bool) {
	t.Helper()
	if e.Right() != want {
		t.Errorf("%.200s: Right is %v", fmt.Sprintf("%+v", e), e.Right())
	}
	b, err := Encode(1, 1, []Event{e})
	if want && err != api.OK || !want && (err != api.ErrArg || len(b) != 0) {
		t.Errorf("%.200s: Encode tells %x, %q", fmt.Sprintf("%+v", e), b, err.Word())
	}
}

func TestConstants(t *testing.T) {
	kinds := []Kind{Boot, Crash, Fail, Link, Own, Off, Tick, Deliver, Lose, Again, Round}
	for i, k := range kinds {
		if int(k) != i {
			t.Errorf("the kinds are %v", kinds)
		}
	}
	if Most != 65536 || Head != 3 || Over != 16 {
		t.Errorf("Most is %d, Head %d, Over %d", Most, Head, Over)
	}
}

func TestRight(t *testing.T) {
	for k, e := range some() {
		isRight(t, e, true)
		isRight(t, Event{Kind: Kind(k)}, true)
	}
}

// What a kind hasn't is zero: each field of the others makes an event that is none.
func TestWhatAKindHas(t *testing.T) {
	turns := []struct {
		field string
		do    func(e *Event)
	}{
		{"I", func(e *Event) { e.I = 1 }},
		{"I", func(e *Event) { e.I = Most }},
		{"K", func(e *Event) { e.K = 1 }},
		{"K", func(e *Event) { e.K = Most }},
		{"N", func(e *Event) { e.N = 1 }},
		{"N", func(e *Event) { e.N = Most }},
		{"A", func(e *Event) { e.Prefix = ten }},
		{"A", func(e *Event) { e.Prefix = addr.Prefix{Len: 1} }},
		{"A", func(e *Event) { e.Prefix = addr.Prefix{Addr: math.MaxUint32, Len: 32} }},
		{"P", func(e *Event) { e.Picks = six }},
		{"P", func(e *Event) { e.Picks = "\x00\x00\x00\x00\x00\x00" }},
	}
	for k, fields := range has() {
		for _, turn := range turns {
			for _, e := range []Event{{Kind: Kind(k)}, some()[k]} {
				turn.do(&e)
				isRight(t, e, strings.Contains(fields, turn.field))
			}
		}
	}
}

func TestKindsThatAreNone(t *testing.T) {
	for _, k := range []Kind{-1, 11, 12, 255, 256, 256 + Tick, 1 << 32, 1<<32 + Tick, math.MinInt, math.MinInt + Tick, math.MaxInt} {
		isRight(t, Event{Kind: k}, false)
		for _, e := range some() {
			e.Kind = k
			isRight(t, e, false)
		}
	}
}

func TestBoundsOfNumbers(t *testing.T) {
	for k, fields := range has() {
		for _, n := range []int{math.MinInt, math.MinInt32, -65536, -1, 0, 1, 255, 256, 65535, 65536, 65537, 1 << 24, 1<<24 + 1, 1 << 32, math.MaxInt} {
			for i, e := range []Event{{I: n}, {K: n}, {N: n}} {
				e.Kind = Kind(k)
				may := strings.Contains(fields, "IKN"[i:i+1]) && n <= 65536
				isRight(t, e, n == 0 || n > 0 && may)
			}
		}
	}
}

func TestPrefixesThatAreNone(t *testing.T) {
	for _, p := range []addr.Prefix{
		{Addr: 1}, {Addr: 0x0a000001, Len: 8}, {Addr: math.MaxUint32, Len: 31}, {Len: -1}, {Len: 33}, {Len: 256}, {Len: 264},
		{Addr: 0x0a000000, Len: 264}, {Len: math.MinInt}, {Len: math.MaxInt},
	} {
		for k := range has() {
			isRight(t, Event{Kind: Kind(k), Prefix: p}, false)
		}
	}
}

func TestBoundsOfPicks(t *testing.T) {
	for n := range 300 {
		isRight(t, Event{Kind: Crash, Picks: strings.Repeat("\xff", n)}, n <= 240 && n%6 == 0)
	}
	for _, n := range []int{256, 258, 262, 492, 6 << 20} {
		isRight(t, Event{Kind: Crash, Picks: strings.Repeat("\x00", n)}, false)
	}
}

func TestChosen(t *testing.T) {
	for _, c := range []struct {
		picks string
		want  []disk.Pick
	}{
		{"", nil},
		{"\x01", nil},
		{"\x01\x02\x03\x04\x05", nil},
		{"\x00\x00\x00\x00\x00\x00", []disk.Pick{{}}},
		{six, []disk.Pick{{How: 2, At: 6, Turn: 256}}},
		{"\x01\x02\x03\x04\x05\x06", []disk.Pick{{How: 1, At: 4, Turn: 0x03040506}}},
		{"\xff\xff\xff\xff\xff\xff", []disk.Pick{{How: 255, At: 510, Turn: math.MaxUint32}}},
		{"\x80\x80\x80\x00\x00\x01", []disk.Pick{{How: 128, At: 256, Turn: 0x80000001}}},
		{six + "\x07", []disk.Pick{{How: 2, At: 6, Turn: 256}}},
		{six + "\x01\x02\x03\x04\x05", []disk.Pick{{How: 2, At: 6, Turn: 256}}},
		{six + "\x01\x02\x03\x04\x05\x06", []disk.Pick{{How: 2, At: 6, Turn: 256}, {How: 1, At: 4, Turn: 0x03040506}}},
		{"\x01\xbf\x03\x04\x05\x06" + six + "\x00", []disk.Pick{{How: 1, At: 382, Turn: 0x03040506}, {How: 2, At: 6, Turn: 256}}},
	} {
		// The kind makes no difference, nor whether the event is Right.
		for k := range 13 {
			if got := (Event{Kind: Kind(k - 1), I: -1, Picks: c.picks}).Chosen(); !slices.Equal(got, c.want) {
				t.Errorf("kind %d: Chosen of %q is %v, want %v", k-1, c.picks, got, c.want)
			}
		}
	}
}

func TestChosenOfManyPicks(t *testing.T) {
	for _, n := range []int{40, 41, 100000} {
		got := Event{Kind: Crash, Picks: strings.Repeat(six, n)}.Chosen()
		if len(got) != n || got[n-1] != (disk.Pick{How: 2, At: 6, Turn: 256}) {
			t.Errorf("of %d picks %d are chosen", n, len(got))
		}
	}
}

// encodes says so if a script isn't just these bytes, or these aren't that script.
func encodes(t *testing.T, n, sectors int, list []Event, want string) {
	t.Helper()
	b, e := Encode(n, sectors, list)
	if e != api.OK || string(b) != want {
		t.Errorf("Encode(%d, %d, %+v) = %x, %q, want %x", n, sectors, list, b, e.Word(), want)
	}
	decodes(t, "just it", []byte(want), n, sectors, list, len(want), api.OK)
}

// decodes says so if bytes don't tell just that.
func decodes(t *testing.T, what string, b []byte, n, sectors int, list []Event, at int, err api.Errno) {
	t.Helper()
	was := slices.Clone(b)
	gotN, gotSectors, got, gotAt, e := Decode(b)
	if gotN != n || gotSectors != sectors || !slices.Equal(got, list) || gotAt != at || e != err {
		t.Errorf("%s: Decode(%.99x) = %d, %d, %d events, %d, %q; want %d, %d, %d events, %d, %q",
			what, b, gotN, gotSectors, len(got), gotAt, e.Word(), n, sectors, len(list), at, err.Word())
	}
	if !slices.Equal(b, was) {
		t.Errorf("%s: Decode turned what it was given", what)
	}
}

// The example of the chapter, byte by byte.
func TestExample(t *testing.T) {
	encodes(t, 3, 64, []Event{{Kind: Tick, I: 2}}, "\x03\x00\x40\x06\x00\x00\x02"+strings.Repeat("\x00", 12))
}

func TestBytes(t *testing.T) {
	for _, c := range []struct {
		n, sectors int
		list       []Event
		want       string
	}{
		{1, 1, nil, "\x01\x00\x01"},
		{1, 1, []Event{}, "\x01\x00\x01"},
		{8, 512, nil, "\x08\x02\x00"},
		{2, 300, nil, "\x02\x01\x2c"},
		{1, 255, nil, "\x01\x00\xff"},
		{1, 256, nil, "\x01\x01\x00"},
		{1, 1, []Event{{}}, "\x01\x00\x01" + strings.Repeat("\x00", 16)},
		{1, 1, []Event{{Kind: Round}}, "\x01\x00\x01\x0a" + strings.Repeat("\x00", 15)},
		{1, 1, []Event{{Kind: Link, I: 0xa1b2, K: 0xc3d4, N: 0xe5f6}}, "\x01\x00\x01\x03\x00\xa1\xb2\x00\xc3\xd4\x00\xe5\xf6\x00\x00\x00\x00\x00\x00"},
		{1, 1, []Event{{Kind: Link, I: Most, K: Most, N: Most}}, "\x01\x00\x01\x03\x01\x00\x00\x01\x00\x00\x01\x00\x00\x00\x00\x00\x00\x00\x00"},
		{1, 1, []Event{{Kind: Fail, I: 1, N: 2}}, "\x01\x00\x01\x02\x00\x00\x01\x00\x00\x00\x00\x00\x02\x00\x00\x00\x00\x00\x00"},
		{1, 1, []Event{{Kind: Own, I: 1, Prefix: addr.Prefix{Addr: 0x91929394, Len: 32}}}, "\x01\x00\x01\x04\x00\x00\x01\x00\x00\x00\x00\x00\x00\x91\x92\x93\x94\x20\x00"},
		{1, 1, []Event{{Kind: Off, Prefix: ten}}, "\x01\x00\x01\x05\x00\x00\x00\x00\x00\x00\x00\x00\x00\x0a\x00\x00\x00\x08\x00"},
		{1, 1, []Event{{Kind: Crash, I: 3, Picks: six}}, "\x01\x00\x01\x01\x00\x00\x03\x00\x00\x00\x00\x00\x00\x00\x00\x00\x00\x00\x06" + six},
		{1, 1, []Event{{Kind: Crash, Picks: strings.Repeat("\xee", 240)}, {Kind: Lose, K: 9}},
			"\x01\x00\x01\x01" + strings.Repeat("\x00", 14) + "\xf0" + strings.Repeat("\xee", 240) + "\x08\x00\x00\x00\x00\x00\x09" + strings.Repeat("\x00", 9)},
		{1, 1, []Event{{Kind: Deliver, K: 1, N: 2}, {Kind: Again, K: 3}},
			"\x01\x00\x01\x07\x00\x00\x00\x00\x00\x01\x00\x00\x02\x00\x00\x00\x00\x00\x00\x09\x00\x00\x00\x00\x00\x03" + strings.Repeat("\x00", 9)},
	} {
		encodes(t, c.n, c.sectors, c.list, c.want)
	}
}

// encoded is a script's bytes.
func encoded(t *testing.T, n, sectors int, list []Event) []byte {
	t.Helper()
	b, e := Encode(n, sectors, list)
	if e != api.OK {
		t.Fatalf("Encode of %d events tells %q", len(list), e.Word())
	}
	return b
}

// fails says so if a script is encoded, or another error told.
func fails(t *testing.T, what string, n, sectors int, list []Event, want api.Errno) {
	t.Helper()
	if b, e := Encode(n, sectors, list); len(b) != 0 || e != want {
		t.Errorf("%s: Encode(%d, %d, %d events) tells %d bytes, %q, want %q", what, n, sectors, len(list), len(b), e.Word(), want.Word())
	}
}

func TestEncodeOfWhatIsntANet(t *testing.T) {
	for _, n := range []int{math.MinInt, -1, 0, 9, 255, 256, 257, 1 << 32, math.MaxInt} {
		fails(t, "machines", n, 9, nil, api.ErrArg)
	}
	for _, n := range []int{math.MinInt, -1, 0, 513, 65535, 65536, 65537, 1 << 32, math.MaxInt} {
		fails(t, "sectors", 1, n, nil, api.ErrArg)
	}
	for n := 1; n <= 8; n++ {
		for _, sectors := range []int{1, 2, 255, 256, 257, 511, 512} {
			decodes(t, "a net", encoded(t, n, sectors, nil), n, sectors, nil, 3, api.OK)
		}
	}
}

func TestEncodeOfAnEventThatIsntRight(t *testing.T) {
	bad := Event{Kind: Tick, K: 1}
	for at := range 5 {
		list := slices.Insert(slices.Repeat([]Event{{Kind: Tick}}, 4), at, bad)
		fails(t, fmt.Sprintf("one at %d", at), 1, 1, list, api.ErrArg)
	}
}

func TestEncodeOfMany(t *testing.T) {
	list := slices.Repeat([]Event{{Kind: Round}}, 8192)
	if b := encoded(t, 8, 512, list); len(b) != 3+8192*16 {
		t.Errorf("8192 events have %d bytes", len(b))
	}
	list[8191] = Event{Kind: -1}
	fails(t, "the last one", 8, 512, list, api.ErrArg)
	// That there are too many is told first.
	fails(t, "one more", 8, 512, append(list, Event{}), api.ErrMany)
	fails(t, "one more", 0, 0, append(list, Event{}), api.ErrMany)
	fails(t, "many more", 8, 512, make([]Event, 100000), api.ErrMany)
	fails(t, "one more, none Right", -1, -1, slices.Repeat([]Event{{Kind: 11}}, 8193), api.ErrMany)
}

// A script may have more bytes than are decoded.
func TestEncodeOfMoreBytesThanAreDecoded(t *testing.T) {
	b := encoded(t, 1, 1, slices.Repeat([]Event{{Kind: Crash, Picks: strings.Repeat(six, 40)}}, 8192))
	if len(b) != 3+8192*256 {
		t.Errorf("it has %d bytes", len(b))
	}
	decodes(t, "too many", b, 0, 0, nil, 0, api.ErrMany)
}

func TestEncodeKeepsNothing(t *testing.T) {
	list := some()
	first := encoded(t, 1, 1, list)
	was := string(first)
	if !slices.Equal(list, some()) {
		t.Error("Encode turned what it was given")
	}
	second := encoded(t, 1, 1, list)
	clear(second)
	if string(first) != was || string(encoded(t, 1, 1, list)) != was {
		t.Error("two answers share their bytes")
	}
}
