package tlv

import (
	"bytes"
	"encoding/binary"
	"math"
	"math/rand"
	"slices"
	"testing"

	"wayfarer/addr"
	"wayfarer/dist"
)

var ten = addr.Prefix{Addr: 0x0a000000, Len: 8}

// of is an update of a router, at a distance.
func of(id uint32, p addr.Prefix, seq uint32, metric uint16) Update {
	return Update{Prefix: p, ID: id, Dist: dist.Dist{Seq: seq, Metric: metric}}
}

// lost is an update by which a prefix is lost.
func lost(p addr.Prefix) Update { return of(0, p, 0, 65535) }

// part is a part of a datagram.
func part(kind byte, body ...byte) []byte {
	return append([]byte{kind, byte(len(body))}, body...)
}

// named is the part that names a router.
func named(id uint32) []byte { return part(2, binary.BigEndian.AppendUint32(nil, id)...) }

// body is a kind 3's body, with these bytes of the address.
func body(bits byte, seq uint32, metric uint16, address ...byte) []byte {
	b := binary.BigEndian.AppendUint32([]byte{bits}, seq)
	return append(binary.BigEndian.AppendUint16(b, metric), address...)
}

// tenth is the part that tells 10.0.0.0/8 at (3, 2).
func tenth() []byte { return part(3, body(8, 3, 2, 10)...) }

// datagram is parts behind the head of a datagram.
func datagram(parts ...[]byte) []byte {
	all := slices.Concat(parts...)
	return slices.Concat([]byte{0x57, 1, byte(len(all) >> 8), byte(len(all))}, all)
}

// encodes says so if a list isn't told as these datagrams.
func encodes(t *testing.T, what string, list []Update, want ...[]byte) {
	t.Helper()
	got := Encode(list)
	if !slices.EqualFunc(got, want, bytes.Equal) {
		t.Errorf("%s: Encode(%v) = %x, want %x", what, list, got, want)
	}
}

// tells says so if a datagram doesn't tell these.
func tells(t *testing.T, what string, b []byte, want ...Update) {
	t.Helper()
	if got, ok := Decode(b); !ok || !slices.Equal(got, want) {
		t.Errorf("%s: Decode(%x) = %v, %v, want %v", what, b, got, ok, want)
	}
}

// isNone says so if bytes are taken for a datagram.
func isNone(t *testing.T, what string, b []byte) {
	t.Helper()
	if got, ok := Decode(b); ok || len(got) != 0 {
		t.Errorf("%s: Decode(%x) = %v, %v", what, b, got, ok)
	}
}

// first is the prefix of an address's first bits.
func first(a uint32, bits int) addr.Prefix {
	return addr.Prefix{Addr: uint32(uint64(a) >> (32 - bits) << (32 - bits)), Len: bits}
}

// wrong is updates that aren't Right.
func wrong() []Update {
	return []Update{
		{},
		of(0, ten, 3, 2), of(0, ten, 0, 0), of(0, ten, 0, 65534),
		of(9, ten, 0, 65535), of(math.MaxUint32, ten, 0, 65535), of(0, ten, 1, 65535), of(0, ten, 1<<30, 65535), of(9, ten, 1, 65535),
		of(9, ten, 1<<30+1, 2), of(9, ten, 1<<31, 2), of(9, ten, math.MaxUint32, 2), of(0, ten, 1<<30+1, 65535),
		of(9, addr.Prefix{Addr: 1}, 3, 2), of(9, addr.Prefix{Addr: 0x0a000001, Len: 8}, 3, 2), of(9, addr.Prefix{Addr: 0x0a800000, Len: 8}, 3, 2),
		of(9, addr.Prefix{Len: 33}, 3, 2), of(9, addr.Prefix{Len: 256}, 3, 2), of(9, addr.Prefix{Len: -1}, 3, 2),
		of(9, addr.Prefix{Len: math.MaxInt}, 3, 2), of(9, addr.Prefix{Len: math.MinInt}, 3, 2),
		lost(addr.Prefix{Addr: 1}), lost(addr.Prefix{Len: 33}), lost(addr.Prefix{Len: -1}),
	}
}

func TestRight(t *testing.T) {
	for _, u := range []Update{
		of(9, ten, 3, 2), of(1, ten, 0, 0), of(1, ten, 0, 65534), of(math.MaxUint32, ten, 3, 2),
		of(1, ten, 1<<30, 0), of(1, ten, 1<<30, 65534), of(1, ten, 1<<30-1, 7),
		of(1, addr.Prefix{}, 3, 2), of(1, addr.Prefix{Len: 32}, 3, 2), of(1, addr.Prefix{Addr: math.MaxUint32, Len: 32}, 3, 2),
		lost(ten), lost(addr.Prefix{}), lost(addr.Prefix{Addr: math.MaxUint32, Len: 32}),
	} {
		if !u.Right() {
			t.Errorf("%v isn't Right", u)
		}
	}
	for _, u := range wrong() {
		if u.Right() {
			t.Errorf("%v is Right", u)
		}
	}
}

// The example of the chapter, byte by byte.
func TestExample(t *testing.T) {
	b := []byte{0x57, 1, 0, 16, 2, 4, 0, 0, 0, 9, 3, 8, 8, 0, 0, 0, 3, 0, 2, 10}
	encodes(t, "the example", []Update{of(9, ten, 3, 2)}, b)
	tells(t, "the example", b, of(9, ten, 3, 2))
}

func TestNumbersHighestBytesFirst(t *testing.T) {
	u := of(0x81020304, addr.Prefix{Addr: 0x91929394, Len: 32}, 0x21222324, 0xa1a2)
	b := datagram(
		[]byte{2, 4, 0x81, 2, 3, 4},
		[]byte{3, 11, 32, 0x21, 0x22, 0x23, 0x24, 0xa1, 0xa2, 0x91, 0x92, 0x93, 0x94})
	encodes(t, "its numbers", []Update{u}, b)
	tells(t, "its numbers", b, u)
}

func TestAddressHasAsManyBytesAsItsLenTakes(t *testing.T) {
	for bits := range 33 {
		n := 0
		for n*8 < bits {
			n++
		}
		for _, a := range []uint32{0, math.MaxUint32, 0x91929394, 0x01020304} {
			p := first(a, bits)
			address := []byte{byte(p.Addr >> 24), byte(p.Addr >> 16), byte(p.Addr >> 8), byte(p.Addr)}[:n]
			b := datagram(named(9), part(3, body(byte(bits), 3, 2, address...)...))
			encodes(t, p.String(), []Update{of(9, p, 3, 2)}, b)
			tells(t, p.String(), b, of(9, p, 3, 2))
		}
	}
}

func TestEncodeOfNothing(t *testing.T) {
	encodes(t, "nil", nil)
	encodes(t, "empty", []Update{})
	encodes(t, "not Right", wrong())
}

func TestEncodePassesOverWhatIsntRight(t *testing.T) {
	for _, w := range wrong() {
		encodes(t, "ahead", []Update{w, of(9, ten, 3, 2)}, datagram(named(9), tenth()))
		encodes(t, "behind", []Update{of(9, ten, 3, 2), w}, datagram(named(9), tenth()))
		// It doesn't count as the one ahead, either.
		encodes(t, "between", []Update{of(9, ten, 3, 2), w, of(9, ten, 3, 2)}, datagram(named(9), tenth(), tenth()))
		encodes(t, "ahead of what is lost", []Update{w, lost(ten)}, datagram(part(3, body(8, 0, 65535, 10)...)))
	}
}

func TestRoutersAreNamedWhereTheyChange(t *testing.T) {
	gone := part(3, body(8, 0, 65535, 10)...)
	for _, c := range []struct {
		what string
		list []Update
		want []byte
	}{
		{"one router", []Update{of(9, ten, 3, 2), of(9, ten, 3, 2), of(9, ten, 3, 2)}, datagram(named(9), tenth(), tenth(), tenth())},
		{"two routers", []Update{of(9, ten, 3, 2), of(8, ten, 3, 2)}, datagram(named(9), tenth(), named(8), tenth())},
		{"one of two again", []Update{of(9, ten, 3, 2), of(8, ten, 3, 2), of(9, ten, 3, 2)}, datagram(named(9), tenth(), named(8), tenth(), named(9), tenth())},
		{"lost first", []Update{lost(ten), lost(ten)}, datagram(gone, gone)},
		{"lost first, then not", []Update{lost(ten), of(9, ten, 3, 2)}, datagram(gone, named(9), tenth())},
		{"lost then", []Update{of(9, ten, 3, 2), lost(ten), lost(ten)}, datagram(named(9), tenth(), named(0), gone, gone)},
		{"lost between", []Update{of(9, ten, 3, 2), lost(ten), of(9, ten, 3, 2)}, datagram(named(9), tenth(), named(0), gone, named(9), tenth())},
		{"alike in their lowest bytes", []Update{of(0x00010009, ten, 3, 2), of(0x01000009, ten, 3, 2), of(9, ten, 3, 2)},
			datagram(named(0x00010009), tenth(), named(0x01000009), tenth(), named(9), tenth())},
	} {
		encodes(t, c.what, c.list, c.want)
		tells(t, c.what, c.want, c.list...)
	}
}

func TestOrderStays(t *testing.T) {
	list := []Update{of(9, first(math.MaxUint32, 20), 3, 2), of(9, ten, 1, 7), of(9, ten, 3, 2), of(9, ten, 3, 2), of(9, addr.Prefix{}, 5, 5)}
	b := datagram(named(9), part(3, body(20, 3, 2, 255, 255, 240)...), part(3, body(8, 1, 7, 10)...), tenth(), tenth(), part(3, body(0, 5, 5)...))
	encodes(t, "not in order, and doubled", list, b)
	tells(t, "not in order, and doubled", b, list...)
}

// filled is updates of the router 9 that make a datagram of just so many bytes, some hundreds; and that datagram.
func filled(size int) ([]Update, []byte) {
	var list []Update
	b := named(9)
	add := func(bits, address int) {
		list = append(list, of(9, addr.Prefix{Len: bits}, 3, 2))
		b = append(b, part(3, body(byte(bits), 3, 2, make([]byte, address)...)...)...)
	}
	// Parts of 11 bytes until those of 10 fill it.
	for (size-4-len(b))%10 != 0 {
		add(16, 2)
	}
	for len(b) < size-4 {
		add(8, 1)
	}
	return list, datagram(b)
}

func TestDatagramsEndWhereTheyWouldBeTooLong(t *testing.T) {
	gone := part(3, body(8, 0, 65535, 10)...)
	for _, c := range []struct {
		what  string
		u     Update
		there []byte // its parts behind the router 9
		anew  []byte // its parts as a datagram's first ones
	}{
		{"of the same router", of(9, ten, 3, 2), tenth(), slices.Concat(named(9), tenth())},
		{"of another router", of(8, ten, 3, 2), slices.Concat(named(8), tenth()), slices.Concat(named(8), tenth())},
		{"lost", lost(ten), slices.Concat(named(0), gone), gone},
		{"without an address", of(9, addr.Prefix{}, 3, 2), part(3, body(0, 3, 2)...), slices.Concat(named(9), part(3, body(0, 3, 2)...))},
	} {
		for more := -3; more <= 3; more++ {
			list, b := filled(1024 - len(c.there) + more)
			if len(b)+len(c.there) != 1024+more {
				t.Fatalf("%s: filled to %d bytes", c.what, len(b))
			}
			list = append(list, c.u)
			if more <= 0 {
				encodes(t, c.what, list, datagram(b[4:], c.there))
			} else {
				encodes(t, c.what, list, b, datagram(c.anew))
			}
		}
	}
}

// What is told behind one that didn't fit comes behind it, though it would fit ahead.
func TestNothingGoesBackToADatagramThatEnded(t *testing.T) {
	list, b := filled(1024 - 10)
	short := part(3, body(0, 3, 2)...)
	encodes(t, "a long one, then a short one", append(list, of(8, ten, 3, 2), of(9, addr.Prefix{}, 3, 2), of(9, addr.Prefix{}, 3, 2)),
		b, datagram(named(8), tenth(), named(9), short, short))
}

func TestManyDatagrams(t *testing.T) {
	u := of(9, addr.Prefix{Addr: 0x0a010203, Len: 32}, 3, 2)
	p := part(3, body(32, 3, 2, 10, 1, 2, 3)...)
	// 4 and 6 bytes ahead, then 78 of 13.
	full := datagram(named(9), bytes.Repeat(p, 78))
	if len(full) != 1024 {
		t.Fatal(len(full))
	}
	for _, rest := range []int{0, 1, 77} {
		want := [][]byte{full, full, full, full}
		if rest > 0 {
			want = append(want, datagram(named(9), bytes.Repeat(p, rest)))
		}
		encodes(t, "many", slices.Repeat([]Update{u}, 4*78+rest), want...)
	}
}

func TestWhatEncodeAnswersIsNew(t *testing.T) {
	list := slices.Repeat([]Update{of(9, ten, 3, 2), {}, of(8, ten, 3, 2)}, 100)
	kept := slices.Clone(list)
	one, other := Encode(list), Encode(list)
	if !slices.Equal(list, kept) {
		t.Error("the list that was handed in is changed")
	}
	if len(one) < 3 || len(other) != len(one) {
		t.Fatalf("%d and %d datagrams", len(one), len(other))
	}
	for i, b := range one {
		whole := b[:cap(b)]
		for j := range whole {
			whole[j] = 0xaa
		}
		for k, o := range other {
			if x, ok := Decode(o); !ok || len(x) == 0 {
				t.Fatalf("datagram %d is turned by writing into datagram %d of another answer", k, i)
			}
		}
		for k := i + 1; k < len(one); k++ {
			if !bytes.Equal(one[k], other[k]) {
				t.Fatalf("datagram %d is turned by writing into datagram %d", k, i)
			}
		}
	}
}

func TestDecodeNeitherTurnsNorKeeps(t *testing.T) {
	b := datagram(named(9), tenth(), part(7, 1, 2), named(0), tenth())
	kept := slices.Clone(b)
	got, _ := Decode(b)
	if !bytes.Equal(b, kept) {
		t.Error("the bytes that were handed in are changed")
	}
	for i := range b {
		b[i] = 0xaa
	}
	if !slices.Equal(got, []Update{of(9, ten, 3, 2)}) {
		t.Errorf("turned by the bytes that were handed in: %v", got)
	}
}

func TestDecodeOfWhatHasNoHead(t *testing.T) {
	good := datagram(named(9), tenth())
	isNone(t, "nil", nil)
	for n := range len(good) {
		isNone(t, "cut off", good[:n])
	}
	isNone(t, "a byte besides", append(slices.Clone(good), 0))
	for i := range 4 {
		for c := range 256 {
			b := slices.Clone(good)
			b[i] = byte(c)
			if c != int(good[i]) {
				isNone(t, "another head", b)
			}
		}
	}
	for _, s := range []string{"", "\x57", "\x57\x01", "\x57\x01\x00", "\x57\x01\x00\x01", "\x57\x01\x01\x00", "\x57\x01\xff\xff", "\x57\x01\xff\xfc", "\x57\x00\x00\x00", "\x57\x02\x00\x00", "\x01\x57\x00\x00", "\x00\x00\x00\x00"} {
		isNone(t, "no head", []byte(s))
	}
	tells(t, "a head alone", []byte{0x57, 1, 0, 0})
}

func TestDecodeHasItsNumberInTwoBytes(t *testing.T) {
	for _, n := range []int{1, 255, 256, 257, 511, 512, 1019, 1020} {
		b := datagram(make([]byte, n))
		tells(t, "noughts", b)
		for _, wrong := range []int{n - 1, n + 1, n + 4, n - 4, n ^ 256, n ^ 1<<15, n&255<<8 | n>>8} {
			if wrong != n {
				b[2], b[3] = byte(wrong>>8), byte(wrong)
				isNone(t, "a number that isn't so", b)
			}
		}
	}
}

func TestDecodeOfLongDatagrams(t *testing.T) {
	list, b := filled(1024)
	tells(t, "1024 bytes", b, list...)
	for _, n := range []int{1, 2, 10, 256, 65535 - 1020} {
		isNone(t, "more than 1024 bytes", datagram(b[4:], make([]byte, n)))
	}
	isNone(t, "65540 bytes, as many as none behind the head", datagram(make([]byte, 1<<16)))
}

func TestDecodePassesOverNoughts(t *testing.T) {
	u := of(9, ten, 3, 2)
	tells(t, "noughts", datagram([]byte{0, 0, 0, 0, 0}))
	tells(t, "noughts ahead", datagram([]byte{0}, named(9), tenth()), u)
	tells(t, "noughts between", datagram(named(9), []byte{0, 0, 0}, tenth(), []byte{0}, tenth()), u, u)
	tells(t, "noughts behind", datagram(named(9), tenth(), []byte{0}), u)
	// A 0 has no number: what is behind it is a part's kind again.
	tells(t, "a nought, then what might be its number", datagram(named(9), []byte{0}, tenth(), []byte{0, 0}), u)
	isNone(t, "a nought, then a kind alone", datagram([]byte{0, 1}))
	isNone(t, "a nought, then a kind 2 that ends too soon", datagram([]byte{0, 2, 1}))
}

func TestDecodePassesOverOtherKinds(t *testing.T) {
	u := of(9, ten, 3, 2)
	for kind := 1; kind < 256; kind++ {
		if kind == 2 || kind == 3 {
			continue
		}
		for _, inside := range [][]byte{nil, {0}, {8, 0, 0, 0}, {0, 0, 0, 8}, named(8), tenth(), body(8, 3, 2, 10), make([]byte, 255), bytes.Repeat([]byte{3}, 255)} {
			p := part(byte(kind), inside...)
			tells(t, "alone", datagram(p))
			tells(t, "ahead", datagram(p, named(9), tenth()), u)
			tells(t, "between", datagram(named(9), p, tenth()), u)
			tells(t, "behind", datagram(named(9), tenth(), p), u)
		}
	}
}

func TestDecodePassesOverKind2OfOtherLengths(t *testing.T) {
	u := of(9, ten, 3, 2)
	for n := range 256 {
		if n == 4 {
			continue
		}
		for _, c := range []byte{0, 1, 8} {
			p := part(2, bytes.Repeat([]byte{c}, n)...)
			tells(t, "a kind 2 of another length", datagram(named(9), p, tenth()), u)
			tells(t, "a kind 2 of another length alone", datagram(p, tenth()))
		}
	}
}

func TestDecodeTellsOfTheRouterNamedLast(t *testing.T) {
	tells(t, "twice named", datagram(named(8), named(9), tenth()), of(9, ten, 3, 2))
	tells(t, "named behind", datagram(tenth(), named(9)))
	tells(t, "named then", datagram(tenth(), named(9), tenth()), of(9, ten, 3, 2))
	tells(t, "0 named", datagram(named(9), named(0), tenth()))
	tells(t, "0 named between", datagram(named(9), tenth(), named(0), tenth(), named(8), tenth()), of(9, ten, 3, 2), of(8, ten, 3, 2))
	tells(t, "the greatest", datagram(named(math.MaxUint32), tenth()), of(math.MaxUint32, ten, 3, 2))
}

func TestDecodeOfWhatIsLost(t *testing.T) {
	gone := part(3, body(8, 0, 65535, 10)...)
	tells(t, "nobody named", datagram(gone), lost(ten))
	tells(t, "0 named", datagram(named(0), gone), lost(ten))
	tells(t, "another one named", datagram(named(9), gone), lost(ten))
	// Who was named stays so.
	tells(t, "then not", datagram(named(9), gone, tenth()), lost(ten), of(9, ten, 3, 2))
	for _, seq := range []uint32{1, 256, 1 << 24, 1 << 30, math.MaxUint32} {
		p := part(3, body(8, seq, 65535, 10)...)
		tells(t, "lost, with a number", datagram(p, named(9), p))
	}
	tells(t, "nearly lost", datagram(named(9), part(3, body(8, 0, 65534, 10)...)), of(9, ten, 0, 65534))
}

func TestDecodePassesOverKind3OfOtherLengths(t *testing.T) {
	for bits := range 256 {
		for n := range 60 {
			if bits <= 32 && n == 7+(bits+7)/8 {
				continue
			}
			inside := make([]byte, n)
			if n > 0 {
				inside[0] = byte(bits)
			}
			p := part(3, inside...)
			tells(t, "a kind 3 of another length", datagram(named(9), p, tenth()), of(9, ten, 3, 2))
		}
	}
}

func TestDecodePassesOverWhatIsntRight(t *testing.T) {
	for _, inside := range [][]byte{
		body(0, 1<<30+1, 2), body(0, 1<<31, 2), body(0, math.MaxUint32, 2),
		body(8, 1<<30+1, 2, 10), body(8, 1<<30+1, 65535, 10),
		body(7, 3, 2, 11), body(1, 3, 2, 64), body(9, 3, 2, 10, 1), body(31, 3, 2, 1, 2, 3, 5), body(25, 3, 2, 1, 2, 3, 64),
		body(7, 0, 65535, 11),
		body(33, 3, 2, 1, 2, 3, 4, 0), body(33, 3, 2, 0, 0, 0, 0, 0), body(40, 3, 2, 0, 0, 0, 0, 0), body(255, 3, 2, make([]byte, 32)...),
		body(33, 0, 65535, 0, 0, 0, 0, 0),
	} {
		p := part(3, inside...)
		tells(t, "not Right", datagram(named(9), p, tenth(), p), of(9, ten, 3, 2))
	}
	tells(t, "the greatest number", datagram(named(9), part(3, body(0, 1<<30, 2)...)), of(9, addr.Prefix{}, 1<<30, 2))
}

func TestDecodeOfPartsThatEndTooSoon(t *testing.T) {
	for kind := 1; kind < 256; kind++ {
		isNone(t, "a kind without a number", datagram([]byte{byte(kind)}))
		isNone(t, "a kind without a number, behind others", datagram(named(9), tenth(), []byte{byte(kind)}))
		for _, n := range []int{1, 2, 4, 8, 255} {
			p := part(byte(kind), make([]byte, n)...)
			tells(t, "whole", datagram(named(9), tenth(), part(9, 1), p[:2+n]), of(9, ten, 3, 2))
			for _, left := range []int{0, n / 2, n - 1} {
				isNone(t, "a body that is shorter", datagram(named(9), tenth(), p[:2+left]))
			}
		}
	}
}

// randomly is an update, mostly one that is Right.
func randomly(r *rand.Rand) Update {
	if r.Intn(10) == 0 {
		all := wrong()
		return all[r.Intn(len(all))]
	}
	p := first(r.Uint32(), r.Intn(33))
	if r.Intn(4) == 0 {
		return lost(p)
	}
	return of(1+r.Uint32()%3, p, r.Uint32()%(1<<30+1), uint16(r.Intn(65535)))
}

func TestWhatIsEncodedIsDecoded(t *testing.T) {
	r := rand.New(rand.NewSource(1))
	for range 300 {
		list := make([]Update, r.Intn(300))
		var want []Update
		for i := range list {
			list[i] = randomly(r)
			if list[i].Right() {
				want = append(want, list[i])
			}
		}
		var got []Update
		for _, b := range Encode(list) {
			told, ok := Decode(b)
			if !ok || len(told) == 0 || len(b) > 1024 {
				t.Fatalf("%x: %v, %v", b, told, ok)
			}
			// As long as may be: what comes next had no more room.
			n := len(got) + len(told)
			if n < len(want) && len(Encode(want[len(got):n])) != 1 || n < len(want) && len(Encode(want[len(got):n+1])) != 2 {
				t.Fatalf("%x isn't as long as may be", b)
			}
			got = append(got, told...)
		}
		if !slices.Equal(got, want) {
			t.Fatalf("Encode(%v) tells %v", list, got)
		}
	}
}

// plainly is what a datagram tells, by a reader of its own: it goes from byte to byte of a copy that is long enough.
func plainly(b []byte) ([]Update, bool) {
	if len(b) < 4 || len(b) > 1024 || !bytes.HasPrefix(b, []byte{0x57, 1}) || int(binary.BigEndian.Uint16(b[2:])) != len(b)-4 {
		return nil, false
	}
	long := append(slices.Clone(b), make([]byte, 300)...)
	var list []Update
	var id uint32
	at := 4
	for at < len(b) {
		kind, size := long[at], int(long[at+1])
		if kind == 0 {
			at++
			continue
		}
		if at+1 == len(b) {
			return nil, false
		}
		in := long[at+2:]
		if at += 2 + size; at > len(b) {
			return nil, false
		}
		if kind == 2 && size == 4 {
			id = binary.BigEndian.Uint32(in)
		}
		if kind != 3 || size < 7 || in[0] > 32 || size != 7+(int(in[0])+7)/8 {
			continue
		}
		var a [4]byte
		for i := range size - 7 {
			a[i] = in[7+i]
		}
		u := of(id, addr.Prefix{Addr: binary.BigEndian.Uint32(a[:]), Len: int(in[0])}, binary.BigEndian.Uint32(in[1:]), binary.BigEndian.Uint16(in[5:]))
		if u.Dist.Metric == 65535 {
			u.ID = 0
		}
		if u.Right() {
			list = append(list, u)
		}
	}
	return list, true
}

// Datagrams of which some bytes are turned, put in or left out tell what their bytes say, and nothing else.
func TestDecodeOfTurnedDatagrams(t *testing.T) {
	r := rand.New(rand.NewSource(2))
	for range 50000 {
		list := make([]Update, 1+r.Intn(8))
		for i := range list {
			list[i] = randomly(r)
		}
		parts := []byte{}
		for _, b := range Encode(list) {
			parts = append(parts, b[4:]...)
		}
		for range r.Intn(4) {
			at := r.Intn(len(parts) + 1)
			switch c := byte(r.Intn(12)); {
			case at == len(parts) || r.Intn(3) == 0:
				parts = slices.Insert(parts, at, c)
			case r.Intn(2) == 0:
				parts[at] = c
			default:
				parts = slices.Delete(parts, at, at+1)
			}
		}
		b := datagram(parts)
		got, ok := Decode(b)
		want, right := plainly(b)
		if ok != right || !slices.Equal(got, want) {
			t.Fatalf("Decode(%x) = %v, %v, want %v, %v", b, got, ok, want, right)
		}
	}
}

func TestDecodeOfAnyBytes(t *testing.T) {
	r := rand.New(rand.NewSource(3))
	for range 20000 {
		b := make([]byte, r.Intn(40))
		for i := range b {
			b[i] = byte(r.Intn(6))
		}
		for _, b := range [][]byte{b, datagram(b)} {
			got, ok := Decode(b)
			want, right := plainly(b)
			if ok != right || !slices.Equal(got, want) {
				t.Fatalf("Decode(%x) = %v, %v, want %v, %v", b, got, ok, want, right)
			}
		}
	}
}
