package script

import (
	"bytes"
	"encoding/binary"
	"fmt"
	"math/rand"
	"slices"
	"strings"
	"testing"

	"wayfarer/addr"
	"wayfarer/api"
)

// reader is a second reader of scripts, byte by byte.
type reader struct {
	b    []byte
	at   int
	over bool // whether the bytes ended too soon
}

func (r *reader) number(n int) int {
	v := 0
	for range n {
		if r.at >= len(r.b) {
			r.over = true
			return 0
		}
		v = v*256 + int(r.b[r.at])
		r.at++
	}
	return v
}

// event is the next event; false: there is none.
func (r *reader) event() (Event, bool) {
	kind, i, k, n, a, l := r.number(1), r.number(3), r.number(3), r.number(3), r.number(4), r.number(1)
	picks := ""
	for range r.number(1) {
		picks += string([]byte{byte(r.number(1))})
	}
	if r.over || kind > 10 || i > 65536 || k > 65536 || n > 65536 || l > 32 || a%(1<<(32-l)) != 0 || len(picks) > 240 || len(picks)%6 != 0 {
		return Event{}, false
	}
	e := Event{Kind(kind), i, k, n, addr.Prefix{Addr: uint32(a), Len: l}, picks}
	fields := has()[kind]
	may := func(field string, zero bool) bool { return zero || strings.Contains(fields, field) }
	return e, may("I", i == 0) && may("K", k == 0) && may("N", n == 0) && may("A", a == 0 && l == 0) && may("P", picks == "")
}

// reads says so if bytes don't tell what the second reader tells; and of how many events it told.
func reads(t *testing.T, what string, b []byte) int {
	t.Helper()
	r := &reader{b: b}
	n, sectors := r.number(1), r.number(2)
	if r.over || n < 1 || n > 8 || sectors < 1 || sectors > 512 {
		decodes(t, what, b, 0, 0, nil, 0, api.ErrForm)
		return 0
	}
	var list []Event
	for r.at < len(b) {
		from := r.at
		e, ok := r.event()
		if !ok || len(list) == 8192 {
			err := api.ErrForm
			if ok {
				err = api.ErrMany
			}
			decodes(t, what, b, n, sectors, list, from, err)
			return len(list)
		}
		list = append(list, e)
	}
	decodes(t, what, b, n, sectors, list, len(b), api.OK)
	return len(list)
}

func TestDecodeOfNoNet(t *testing.T) {
	event := make([]byte, 16)
	for _, head := range []string{
		"", "\x01", "\x01\x00", "\x08\x02", "\x00\x00\x00", "\x00\x00\x09", "\x09\x00\x09", "\x0a\x00\x01", "\xff\x00\x01",
		"\x01\x00\x00", "\x01\x02\x01", "\x01\x03\x00", "\x01\xff\xff", "\x01\x80\x00", "\x08\x10\x00",
	} {
		decodes(t, "no net", []byte(head), 0, 0, nil, 0, api.ErrForm)
		if len(head) == 3 {
			decodes(t, "no net, and an event", append([]byte(head), event...), 0, 0, nil, 0, api.ErrForm)
			decodes(t, "no net, and no event", append([]byte(head), 99), 0, 0, nil, 0, api.ErrForm)
		}
	}
	for n := range 256 {
		for _, sectors := range []int{0, 1, 255, 256, 512, 513, 65535} {
			reads(t, "a head", binary.BigEndian.AppendUint16([]byte{byte(n)}, uint16(sectors)))
		}
	}
}

func TestDecodeOfNothingBehindTheHead(t *testing.T) {
	decodes(t, "no events", []byte("\x01\x00\x01"), 1, 1, nil, 3, api.OK)
}

// Each script that is cut off tells the events ahead of the cut, and where the one begins that is cut.
func TestDecodeOfWhatIsCutOff(t *testing.T) {
	list := some()
	whole := encoded(t, 8, 512, list)
	ends := []int{3}
	for _, e := range list {
		ends = append(ends, ends[len(ends)-1]+16+len(e.Picks))
	}
	for n := 3; n <= len(whole); n++ {
		k := 0
		for k+1 < len(ends) && ends[k+1] <= n {
			k++
		}
		err := api.ErrForm
		if ends[k] == n {
			err = api.OK
		}
		decodes(t, fmt.Sprintf("%d bytes", n), whole[:n], 8, 512, list[:k], ends[k], err)
	}
}

// An event that isn't Right ends what is told, whatever stands behind it.
func TestDecodeOfWhatIsntRight(t *testing.T) {
	ahead := []Event{{Kind: Tick, I: 1}, {Kind: Crash, I: 2, Picks: six}}
	head := encoded(t, 2, 300, ahead)
	for _, s := range []string{
		"\x0b" + strings.Repeat("\x00", 15),                                        // another kind
		"\xff" + strings.Repeat("\x00", 15),                                        // another kind
		"\x06\x01\x00\x01" + strings.Repeat("\x00", 12),                            // I above Most
		"\x06\xff\xff\xff" + strings.Repeat("\x00", 12),                            // I above Most
		"\x08\x00\x00\x00\x01\x00\x01" + strings.Repeat("\x00", 9),                 // K above Most
		"\x02\x00\x00\x00\x00\x00\x00\x01\x00\x01" + strings.Repeat("\x00", 6),     // N above Most
		"\x06\x00\x00\x01\x00\x00\x01" + strings.Repeat("\x00", 9),                 // K of what has none
		"\x0a\x00\x00\x01" + strings.Repeat("\x00", 12),                            // I of what has none
		"\x04" + strings.Repeat("\x00", 9) + "\x0a\x00\x00\x01\x08\x00",            // no prefix
		"\x04" + strings.Repeat("\x00", 9) + "\x00\x00\x00\x00\x21\x00",            // a prefix too long
		"\x04" + strings.Repeat("\x00", 9) + "\x00\x00\x00\x00\xff\x00",            // a prefix too long
		"\x06" + strings.Repeat("\x00", 9) + "\x0a\x00\x00\x00\x08\x00",            // a prefix of what has none
		"\x01" + strings.Repeat("\x00", 14) + "\x05" + strings.Repeat("\x00", 5),   // not six bytes a pick
		"\x01" + strings.Repeat("\x00", 14) + "\x07" + strings.Repeat("\x00", 7),   // not six bytes a pick
		"\x01" + strings.Repeat("\x00", 14) + "\xf6" + strings.Repeat("\x00", 246), // too many picks
		"\x00" + strings.Repeat("\x00", 14) + "\x06" + strings.Repeat("\x00", 6),   // picks of what has none
		"\x01" + strings.Repeat("\x00", 14) + "\x06" + strings.Repeat("\x00", 5),   // picks that end too soon
		"\x01" + strings.Repeat("\x00", 14) + "\xf0" + strings.Repeat("\x00", 6),   // picks that end too soon
		"\x06" + strings.Repeat("\x00", 14),                                        // an event that ends too soon
		"\x00",                                                                     // an event that ends too soon
	} {
		b := append(slices.Clone(head), s...)
		decodes(t, fmt.Sprintf("%q", s), b, 2, 300, ahead, len(head), api.ErrForm)
	}
	bad := "\x0b" + strings.Repeat("\x00", 15)
	decodes(t, "one behind it", append(append(slices.Clone(head), bad...), encoded(t, 1, 1, some())[3:]...), 2, 300, ahead, len(head), api.ErrForm)
}

func TestDecodeOfManyBytes(t *testing.T) {
	const most = 1 << 18
	list := slices.Repeat([]Event{{Kind: Crash, Picks: strings.Repeat(six, 40)}}, 1023)
	list = append(list, Event{Kind: Crash, Picks: strings.Repeat(six, 34)}, Event{Kind: Round}, Event{Kind: Round})
	b := encoded(t, 1, 1, list)
	// An event's bytes are even in number, a head's aren't: so no whole script has just as many bytes as there may be.
	if len(b) != most-1 {
		t.Fatalf("%d events have %d bytes", len(list), len(b))
	}
	decodes(t, "one byte fewer than there may be", b, 1, 1, list, most-1, api.OK)
	b = append(b, 0)
	decodes(t, "as many as there may be", b, 1, 1, list, most-1, api.ErrForm)
	b = append(b, 0)
	decodes(t, "one more", b, 0, 0, nil, 0, api.ErrMany)
	// That there are too many is told first.
	decodes(t, "one more, and no head", make([]byte, most+1), 0, 0, nil, 0, api.ErrMany)
	decodes(t, "no head", make([]byte, most), 0, 0, nil, 0, api.ErrForm)
	decodes(t, "many more", bytes.Repeat([]byte{1}, 4*most), 0, 0, nil, 0, api.ErrMany)
}

func TestDecodeOfManyEvents(t *testing.T) {
	list := slices.Repeat([]Event{{Kind: Round}}, 8192)
	list[8191] = Event{Kind: Tick, I: 7}
	b := encoded(t, 8, 512, list)
	const size = 3 + 8192*16
	decodes(t, "as many as there may be", b, 8, 512, list, size, api.OK)
	behind := func(what, s string, err api.Errno) {
		t.Helper()
		decodes(t, what, append(slices.Clone(b), s...), 8, 512, list, size, err)
	}
	event := "\x06" + strings.Repeat("\x00", 15)
	behind("one more", event, api.ErrMany)
	behind("one more, and more", event+event+event, api.ErrMany)
	behind("one more, and what is none", event+"\x0b", api.ErrMany)
	// What is no event isn't one too many.
	behind("one that is cut off", event[:15], api.ErrForm)
	behind("a byte", "\x00", api.ErrForm)
	behind("one that isn't Right", "\x0b"+event[1:], api.ErrForm)
}

// What was told stays, when the bytes it was told of are turned.
func TestDecodeKeepsNothing(t *testing.T) {
	list := some()
	b := encoded(t, 1, 1, list)
	_, _, got, _, _ := Decode(b)
	for i := range b {
		b[i] = 0xee
	}
	if !slices.Equal(got, list) {
		t.Errorf("turned bytes turned the events: %+v", got)
	}
}

// anyEvent is an event that is Right.
func anyEvent(g *rand.Rand) Event {
	one := func() int { return []int{0, 1, g.Intn(8), g.Intn(1024), g.Intn(65537), 65536}[g.Intn(6)] }
	e := Event{Kind: Kind(g.Intn(11))}
	for _, c := range has()[e.Kind] {
		switch c {
		case 'I':
			e.I = one()
		case 'K':
			e.K = one()
		case 'N':
			e.N = one()
		case 'A':
			bits := g.Intn(33)
			e.Prefix = addr.Prefix{Addr: uint32(uint64(g.Uint32()) >> (32 - bits) << (32 - bits)), Len: bits}
		case 'P':
			picks := make([]byte, 6*g.Intn(41))
			g.Read(picks)
			e.Picks = string(picks)
		}
	}
	return e
}

// Scripts come back as they were; turned, cut and put together anyhow they tell what the second reader tells.
func TestRandomScripts(t *testing.T) {
	most := 0
	for seed := range int64(3000) {
		g := rand.New(rand.NewSource(seed))
		n, sectors := g.Intn(8)+1, g.Intn(512)+1
		var list []Event
		for range g.Intn(12) {
			list = append(list, anyEvent(g))
		}
		b := encoded(t, n, sectors, list)
		decodes(t, "as it was", b, n, sectors, list, len(b), api.OK)
		for range g.Intn(3) {
			b[g.Intn(len(b))] ^= 1 << g.Intn(8)
		}
		if g.Intn(3) == 0 {
			b = b[:g.Intn(len(b)+1)]
		}
		if g.Intn(3) == 0 {
			b = append(b, make([]byte, g.Intn(40))...)
		}
		most = max(most, reads(t, fmt.Sprintf("seed %d", seed), b))
	}
	if most < 11 {
		t.Errorf("at most %d events were told", most)
	}
}

// Each byte of a script, turned in any way, tells what the second reader tells.
func TestTurnedBytes(t *testing.T) {
	b := encoded(t, 8, 512, some())
	for i := range b {
		for turn := 1; turn < 256; turn++ {
			b[i] ^= byte(turn)
			reads(t, fmt.Sprintf("byte %d turned by %#x", i, turn), b)
			b[i] ^= byte(turn)
		}
	}
}
