package net

import (
	"fmt"
	"math"
	"slices"
	"testing"

	"wayfarer/addr"
	"wayfarer/api"
	"wayfarer/fib"
	"wayfarer/loop"
	"wayfarer/tlv"
)

// star is a running net of eight machines, of which the first one, which has ten, has links to all others.
func star(t *testing.T) *Net {
	t.Helper()
	w := running(t, 8)
	tells(t, "Own", w.Own(0, ten, true), api.OK)
	for i := 1; i < 8; i++ {
		tells(t, "Link", w.Link(0, i, i), api.OK)
	}
	return w
}

func TestTheExample(t *testing.T) {
	w := lined(t, 7)
	tells(t, "Own", w.Own(1, ten, true), api.OK)
	far(t, "ahead of a Round", w, 0, ten, -1)
	w.Round()
	far(t, "behind a Round", w, 0, ten, 7)
	if e := w.Fibs()[0].Lookup(0x0a010203); e != (fib.Entry{Prefix: ten, How: fib.Via, Next: 1}) {
		t.Errorf("Lookup tells %v", e)
	}
}

func TestTick(t *testing.T) {
	w := star(t)
	waits(t, "ahead of all", w)
	var want []Packet
	for n := range 3 {
		tells(t, "Tick", w.Tick(0), api.OK)
		for i := 1; i < 8; i++ {
			want = append(want, packet(0, i, of(ten, 1, 1, 0)))
		}
		waits(t, "in order", w, want...)
		tells(t, "Tick", w.Tick(2), api.OK)
		waits(t, "one that has nothing to tell", w, want...)
		if w.Router(0).Now() != int64(n)+1 || w.Router(2).Now() != int64(n)+1 || w.Router(1).Now() != 0 {
			t.Errorf("Now is %d, %d, %d", w.Router(0).Now(), w.Router(2).Now(), w.Router(1).Now())
		}
	}
	tells(t, "Crash", w.Crash(0, nil), api.OK)
	tells(t, "Tick of one that doesn't run", w.Tick(0), api.ErrState)
	waits(t, "what is under way stays so", w, want...)
	tells(t, "Deliver", w.Deliver(1, api.MaxMTU), api.OK)
	tells(t, "Tick", w.Tick(2), api.OK)
	want = append(slices.Delete(want, 1, 2), packet(2, 0, of(ten, 1, 1, 2)))
	waits(t, "from another one, behind all others", w, want...)
}

// More than one datagram to each neighbour: they go one behind the other.
func TestTickOfMuch(t *testing.T) {
	w := New(8, 512)
	list := make([][]tlv.Update, 8)
	for i := range 8 {
		tells(t, "Boot", w.Boot(i), api.OK)
		tells(t, "Link", w.Link(i, (i+1)%8, 1), api.OK)
		for k := range 16 {
			p := addr.Prefix{Addr: uint32(i)<<28 | uint32(k)<<8, Len: 32}
			tells(t, "Own", w.Own(i, p, true), api.OK)
			list[i] = append(list[i], of(p, uint32(i)+1, 1, uint16(min(i, 8-i))))
		}
	}
	for range 5 {
		w.Round()
	}
	tells(t, "Tick", w.Tick(0), api.OK)
	all := tlv.Encode(slices.Concat(list...))
	if len(all) != 2 {
		t.Fatalf("this test tells %d datagrams", len(all))
	}
	waits(t, "two to each", w, Packet{0, 1, all[0]}, Packet{0, 1, all[1]}, Packet{0, 7, all[0]}, Packet{0, 7, all[1]})
}

func TestTickOfTooMany(t *testing.T) {
	w := star(t)
	// 7 in each Tick: 36 of them leave room for 4.
	for n := range 36 {
		tells(t, "Tick", w.Tick(0), api.OK)
		if w.Waiting() != 7*n+7 {
			t.Errorf("Tick %d: Waiting is %d", n, w.Waiting())
		}
	}
	for range 3 {
		tells(t, "Tick", w.Tick(0), api.OK)
		if w.Waiting() != 256 {
			t.Errorf("Waiting is %d", w.Waiting())
		}
	}
	if now := w.Router(0).Now(); now != 39 {
		t.Errorf("Now is %d", now)
	}
	for k, p := range packets(w) {
		if seq := uint32(k/7/12 + 1); !samePacket(p, packet(0, k%7+1, of(ten, 1, seq, 0))) {
			t.Errorf("Packet(%d) is %v", k, p)
		}
	}
	tells(t, "Lose", w.Lose(3), api.OK)
	tells(t, "Tick", w.Tick(0), api.OK)
	if p, _ := w.Packet(255); w.Waiting() != 256 || !samePacket(p, packet(0, 1, of(ten, 1, 4, 0))) {
		t.Errorf("Waiting is %d, the last one %v", w.Waiting(), p)
	}
}

func TestPacket(t *testing.T) {
	w := lined(t, 1, 1)
	w.Own(1, ten, true)
	w.Tick(1)
	for _, k := range []int{2, 3, 256, -1, math.MinInt, math.MaxInt} {
		if p, ok := w.Packet(k); ok || p.From != 0 || p.To != 0 || p.Data != nil {
			t.Errorf("Packet(%d) is %v, %v", k, p, ok)
		}
	}
	for k, to := range []int{0, 2} {
		for range 2 {
			p, ok := w.Packet(k)
			if !ok || !samePacket(p, packet(1, to, of(ten, 2, 1, 0))) {
				t.Errorf("Packet(%d) is %v, %v", k, p, ok)
			}
			clear(p.Data)
		}
	}
	w.Again(0)
	p, _ := w.Packet(0)
	clear(p.Data)
	w.Deliver(2, api.MaxMTU)
	far(t, "what was told stays", w, 0, ten, 1)
}

// five is a net in which five datagrams are under way, to machine 1, 2, 3, 4 and 5.
func five(t *testing.T) (*Net, []Packet) {
	t.Helper()
	w := star(t)
	w.Tick(0)
	w.Lose(6)
	w.Lose(5)
	list := packets(w)
	if len(list) != 5 {
		t.Fatalf("under way is %v", list)
	}
	return w, list
}

// comesToOne says so if not just that one of a star's machines has heard of the first one.
func comesToOne(t *testing.T, what string, w *Net, one int) {
	t.Helper()
	for i := 1; i < 8; i++ {
		want := -1
		if i == one {
			want = i
		}
		far(t, what, w, i, ten, want)
	}
}

func TestNoSuchDatagram(t *testing.T) {
	w, list := five(t)
	for _, k := range []int{5, 6, 256, 1 << 32, -1, math.MinInt, math.MaxInt} {
		tells(t, fmt.Sprintf("Lose(%d)", k), w.Lose(k), api.ErrNone)
		tells(t, fmt.Sprintf("Again(%d)", k), w.Again(k), api.ErrNone)
		tells(t, fmt.Sprintf("Deliver(%d)", k), w.Deliver(k, api.MaxMTU), api.ErrNone)
		tells(t, fmt.Sprintf("Deliver(%d, -1)", k), w.Deliver(k, -1), api.ErrNone)
	}
	waits(t, "behind errors", w, list...)
	fars(t, "behind errors", w, ten, 0, -1, -1, -1, -1, -1, -1, -1)
	none := New(2, 64)
	tells(t, "Lose", none.Lose(0), api.ErrNone)
	tells(t, "Again", none.Again(0), api.ErrNone)
	tells(t, "Deliver", none.Deliver(0, 0), api.ErrNone)
}

func TestLose(t *testing.T) {
	for k := range 5 {
		w, list := five(t)
		tells(t, "Lose", w.Lose(k), api.OK)
		list = slices.Delete(list, k, k+1)
		waits(t, "Lose", w, list...)
		fars(t, "Lose", w, ten, 0, -1, -1, -1, -1, -1, -1, -1)
		w.Tick(0)
		if w.Waiting() != 11 {
			t.Errorf("behind a Tick, Waiting is %d", w.Waiting())
		}
	}
}

func TestAgain(t *testing.T) {
	for k := range 5 {
		w, list := five(t)
		for range 3 {
			tells(t, "Again", w.Again(k), api.OK)
			list = append(list, list[k])
			waits(t, "Again", w, list...)
		}
		fars(t, "Again", w, ten, 0, -1, -1, -1, -1, -1, -1, -1)
		tells(t, "Deliver", w.Deliver(6, api.MaxMTU), api.OK)
		comesToOne(t, "one of two", w, k+1)
		waits(t, "the others", w, slices.Delete(list, 6, 7)...)
	}
}

func TestAgainOfTooMany(t *testing.T) {
	w, list := five(t)
	for w.Waiting() < 255 {
		tells(t, "Again", w.Again(0), api.OK)
		list = append(list, list[0])
	}
	tells(t, "one more", w.Again(4), api.OK)
	list = append(list, list[4])
	waits(t, "as many as may be", w, list...)
	tells(t, "one too many", w.Again(2), api.OK)
	tells(t, "one too many", w.Again(255), api.OK)
	tells(t, "none such", w.Again(256), api.ErrNone)
	waits(t, "no more than that", w, list...)
	tells(t, "Lose", w.Lose(0), api.OK)
	tells(t, "one more", w.Again(1), api.OK)
	list = append(list[1:], list[2])
	waits(t, "one in its place", w, list...)
}

func TestDeliver(t *testing.T) {
	for k := range 5 {
		w, list := five(t)
		tells(t, "Deliver", w.Deliver(k, api.MaxMTU), api.OK)
		comesToOne(t, "Deliver", w, k+1)
		waits(t, "Deliver", w, slices.Delete(list, k, k+1)...)
	}
}

func TestDeliverOfSoMuch(t *testing.T) {
	whole := len(packet(0, 1, of(ten, 1, 1, 0)).Data)
	for _, most := range []int{math.MinInt, -1, 0, 1, 4, whole - 1, whole, whole + 1, api.MaxMTU, 1 << 32, math.MaxInt} {
		w, list := five(t)
		tells(t, "Deliver", w.Deliver(2, most), api.OK)
		want := -1
		if most >= whole {
			want = 3
		}
		far(t, fmt.Sprintf("the first %d bytes", most), w, 3, ten, want)
		waits(t, "Deliver", w, slices.Delete(list, 2, 3)...)
	}
}

// What is cut off turns nothing, also where some of it could be read.
func TestDeliverOfWhatIsCutOff(t *testing.T) {
	w := lined(t, 3)
	for _, p := range []addr.Prefix{ten, tenOne, high} {
		w.Own(0, p, true)
	}
	w.Round()
	w.Tick(0)
	p, _ := w.Packet(0)
	w.Own(0, tenOne, false)
	w.Own(0, last, true)
	w.Tick(0)
	was := w.Router(1).Fib()
	for most := range len(p.Data) {
		w.Again(1)
		tells(t, "Deliver", w.Deliver(2, most), api.OK)
		if got := w.Router(1).Fib(); !slices.Equal(got, was) {
			t.Errorf("the first %d bytes turn it: %v, was %v", most, got, was)
		}
	}
	tells(t, "Deliver of all", w.Deliver(1, api.MaxMTU), api.OK)
	far(t, "all of it", w, 1, last, 3)
	far(t, "all of it", w, 1, tenOne, -1)
}

func TestDeliverToOneThatDoesNotRun(t *testing.T) {
	w, list := five(t)
	w.Crash(2, nil)
	w.Crash(0, nil)
	tells(t, "to one that doesn't run", w.Deliver(1, api.MaxMTU), api.OK)
	waits(t, "to one that doesn't run", w, list[0], list[2], list[3], list[4])
	tells(t, "from one that doesn't run", w.Deliver(0, api.MaxMTU), api.OK)
	far(t, "from one that doesn't run", w, 1, ten, 1)
	w.Crash(3, nil)
	w.Boot(3)
	w.Boot(2)
	far(t, "it was lost", w, 2, ten, -1)
	tells(t, "to one that runs again", w.Deliver(0, api.MaxMTU), api.OK)
	far(t, "to one that runs again", w, 3, ten, 3)
	tells(t, "no link", w.Link(0, 4, 0), api.OK)
	tells(t, "over no link", w.Deliver(0, api.MaxMTU), api.OK)
	far(t, "over no link", w, 4, ten, -1)
	tells(t, "another cost", w.Link(5, 0, 9), api.OK)
	tells(t, "over another cost", w.Deliver(0, api.MaxMTU), api.OK)
	far(t, "over another cost", w, 5, ten, 9)
	waits(t, "all came", w)
}

// First all of them Tick, then all that is under way comes: so what is told goes over one link a Round to one that ticked.
func TestRound(t *testing.T) {
	w := lined(t, 1, 10, 100)
	w.Own(1, ten, true)
	w.Round()
	fars(t, "the first", w, ten, 1, 0, 10, -1)
	waits(t, "the first", w)
	w.Round()
	fars(t, "the second", w, ten, 1, 0, 10, 110)
	for i := range 4 {
		if now := w.Router(i).Now(); now != 2 {
			t.Errorf("Now of %d is %d", i, now)
		}
	}
}

// The eldest one comes first, and what was under way ahead of a Round comes, too.
func TestRoundOfWhatWasUnderWay(t *testing.T) {
	w := lined(t, 1)
	w.Own(0, ten, true)
	w.Tick(0)
	w.Own(0, ten, false)
	w.Own(0, high, true)
	w.Round()
	fars(t, "the eldest one first", w, ten, -1, -1)
	fars(t, "then the other one", w, high, 0, 1)
	waits(t, "all came", w)

	w.Tick(0)
	w.Crash(0, nil)
	w.Link(0, 1, 5)
	w.Round()
	if now := w.Router(1).Now(); now != 2 || w.Router(0) != nil {
		t.Errorf("Now is %d", now)
	}
	far(t, "from one that runs no more", w, 1, high, 5)
	waits(t, "to one that runs no more", w)
	w.Boot(0)
	far(t, "nothing came", w, 0, ten, -1)
}

func TestRoundsOfWhatDoesNotRun(t *testing.T) {
	w := New(8, 64)
	for i := 1; i < 8; i++ {
		w.Link(0, i, 1)
	}
	for range 3 {
		w.Round()
		for i := range 8 {
			if w.Router(i) != nil {
				t.Errorf("%d runs", i)
			}
		}
		waits(t, "nothing runs", w)
	}
	w.Boot(5)
	w.Round()
	if now := w.Router(5).Now(); now != 1 {
		t.Errorf("Now is %d", now)
	}
}

// What is lost for want of room in a Round's Ticks doesn't come.
func TestRoundOfTooMany(t *testing.T) {
	w := star(t)
	for w.Waiting() < 253 {
		w.Tick(0)
	}
	for w.Waiting() > 253 {
		w.Lose(253)
	}
	w.Own(0, high, true)
	w.Round()
	fars(t, "three came", w, high, 0, 1, 2, 3, -1, -1, -1, -1)
	fars(t, "what was under way", w, ten, 0, 1, 2, 3, 4, 5, 6, 7)
	waits(t, "all came", w)
}

// Of the Ticks in a Round the lesser machine's comes first: so it takes the last room there is.
func TestRoundTicksInOrder(t *testing.T) {
	w := lined(t, 1, 1)
	w.Own(0, ten, true)
	w.Own(2, high, true)
	w.Tick(0)
	for w.Waiting() < 255 {
		w.Again(0)
	}
	w.Own(0, last, true)
	w.Round()
	far(t, "of 0", w, 1, last, 1)
	far(t, "of 2, which was lost", w, 1, high, -1)
	w.Round()
	far(t, "of 2, with room", w, 1, high, 1)
}

func TestThroughACrash(t *testing.T) {
	w := lined(t, 2, 3, 4)
	w.Link(0, 3, 90)
	w.Own(3, ten, true)
	for range 4 {
		w.Round()
	}
	fars(t, "ahead", w, ten, 9, 7, 4, 0)
	w.Crash(2, nil)
	// Nothing is sent in a ring while the numbers don't yet let anybody go the long way.
	for range 30 {
		w.Round()
		if i, a, ok := loop.Find(w.Fibs()); ok {
			t.Errorf("from %d to %#x in a ring", i, a)
		}
	}
	fars(t, "the long way", w, ten, 90, 92)
	w.Boot(2)
	for range 40 {
		w.Round()
	}
	fars(t, "behind", w, ten, 9, 7, 4, 0)
	if seq := w.Router(3).Seq(); seq != 7 {
		t.Errorf("Seq is %d", seq)
	}
}
