package rec

import (
	"bytes"
	"encoding/binary"
	"encoding/hex"
	"hash/crc32"
	"math"
	"math/bits"
	"math/rand"
	"slices"
	"strings"
	"testing"

	"wayfarer/addr"
	"wayfarer/api"
	"wayfarer/dist"
)

var ten = addr.Prefix{Addr: 0x0a000000, Len: 8}

// summed is a sector of 44 bytes: these and the sum of them, by the library's
// crc32, which goes through each byte from its lowest bit on, and turns all bits at the end.
func summed(b []byte) []byte {
	turned := make([]byte, len(b))
	for i, c := range b {
		turned[i] = bits.Reverse8(c)
	}
	return binary.BigEndian.AppendUint32(slices.Clone(b), ^bits.Reverse32(crc32.ChecksumIEEE(turned)))
}

// sector is a sector as it is to be: of its bytes as hexadecimal digits, with noughts up to the sum, and that.
func sector(t *testing.T, digits string) []byte {
	t.Helper()
	b, e := hex.DecodeString(strings.ReplaceAll(digits, " ", ""))
	if e != nil || len(b) != 28 {
		t.Fatalf("no head of a sector: %q", digits)
	}
	return summed(append(b, make([]byte, 16)...))
}

// some is one record of each kind that has all that it may have, and Gen and LSN.
func some() []Rec {
	return []Rec{
		{Kind: Begin, Gen: 1, LSN: 2, ID: 3},
		{Kind: Own, Gen: 1, LSN: 2, Prefix: ten, On: true},
		{Kind: Lease, Gen: 1, LSN: 2, Dist: dist.Dist{Seq: 4}},
		{Kind: Floor, Gen: 1, LSN: 2, ID: 3, Prefix: ten, Dist: dist.Dist{Seq: 4, Metric: 5}},
	}
}

// isNone says so if a record is taken for one that can be written.
func isNone(t *testing.T, r Rec) {
	t.Helper()
	if r.Right() {
		t.Errorf("%+v is Right", r)
	}
	if b := r.Sector(); len(b) != 0 {
		t.Errorf("%+v has the sector %x", r, b)
	}
}

// comesBack says so if a record isn't that of its sector.
func comesBack(t *testing.T, r Rec) {
	t.Helper()
	if !r.Right() {
		t.Errorf("%+v isn't Right", r)
	}
	b := r.Sector()
	if got, ok := Of(b); len(b) != 48 || !ok || got != r {
		t.Errorf("%+v: its sector %x is that of %+v, %v", r, b, got, ok)
	}
}

// holdsNone says so if bytes are taken for a record's sector.
func holdsNone(t *testing.T, what string, b []byte) {
	t.Helper()
	if r, ok := Of(b); ok || r != (Rec{}) {
		t.Errorf("%s: Of(%x) = %+v, %v", what, b, r, ok)
	}
}

func TestKinds(t *testing.T) {
	if Begin != 1 || Own != 2 || Lease != 3 || Floor != 4 {
		t.Errorf("the kinds are %d, %d, %d, %d", Begin, Own, Lease, Floor)
	}
}

func TestRight(t *testing.T) {
	for _, r := range []Rec{
		{Kind: Begin, ID: 1},
		{Kind: Begin, ID: math.MaxUint32},
		{Kind: Begin, Gen: math.MaxUint32, LSN: math.MaxUint32, ID: 1 << 31},
		{Kind: Own},
		{Kind: Own, On: true},
		{Kind: Own, Gen: math.MaxUint32, LSN: math.MaxUint32, Prefix: ten},
		{Kind: Own, Prefix: addr.Prefix{Addr: math.MaxUint32, Len: 32}, On: true},
		{Kind: Own, Prefix: addr.Prefix{Addr: 1 << 31, Len: 1}},
		{Kind: Lease},
		{Kind: Lease, Dist: dist.Dist{Seq: 1}},
		{Kind: Lease, Gen: math.MaxUint32, LSN: math.MaxUint32, Dist: dist.Dist{Seq: 1 << 30}},
		{Kind: Floor, ID: 1},
		{Kind: Floor, ID: math.MaxUint32, Prefix: ten},
		{Kind: Floor, ID: 1, Dist: dist.Dist{Seq: 1 << 30, Metric: 65534}},
		{Kind: Floor, Gen: math.MaxUint32, LSN: math.MaxUint32, ID: 7, Prefix: ten, Dist: dist.Dist{Metric: 1}},
	} {
		comesBack(t, r)
	}
}

func TestKindsThatAreNone(t *testing.T) {
	for _, k := range []Kind{0, 5, 6, 255, -1, -4, 256, 257, 260, 1 << 8, 1<<32 + 1, 1<<32 + 4, math.MinInt, math.MinInt + 1, math.MaxInt} {
		isNone(t, Rec{Kind: k})
		isNone(t, Rec{Kind: k, Gen: 1, LSN: 1})
		for _, r := range some() {
			r.Kind = k
			isNone(t, r)
		}
	}
}

// What a kind hasn't is zero: each field of the others makes a record that is none.
func TestWhatAKindHasnt(t *testing.T) {
	type turn struct {
		name string
		do   func(r *Rec)
	}
	turns := []turn{
		{"ID", func(r *Rec) { r.ID = 1 }},
		{"great ID", func(r *Rec) { r.ID = 1 << 31 }},
		{"Addr", func(r *Rec) { r.Prefix = ten }},
		{"Len", func(r *Rec) { r.Prefix.Len = 1 }},
		{"On", func(r *Rec) { r.On = true }},
		{"Seq", func(r *Rec) { r.Dist.Seq = 1 }},
		{"Metric", func(r *Rec) { r.Dist.Metric = 1 }},
	}
	has := map[Kind]string{
		Begin: " ID great ID ",
		Own:   " Addr Len On ",
		Lease: " Seq ",
		Floor: " ID great ID Addr Len Seq Metric ",
	}
	for _, least := range []Rec{{Kind: Begin, ID: 9}, {Kind: Own}, {Kind: Lease}, {Kind: Floor, ID: 9}} {
		for _, turn := range turns {
			r := least
			turn.do(&r)
			want := strings.Contains(has[r.Kind], " "+turn.name+" ")
			if r.Right() != want {
				t.Errorf("kind %d with %s: Right = %v", r.Kind, turn.name, r.Right())
			}
			if want {
				comesBack(t, r)
			} else {
				isNone(t, r)
			}
		}
	}
}

func TestBoundsOfWhatAKindHas(t *testing.T) {
	isNone(t, Rec{Kind: Begin})
	isNone(t, Rec{Kind: Begin, Gen: 1, LSN: 1})
	isNone(t, Rec{Kind: Floor})
	isNone(t, Rec{Kind: Floor, Prefix: ten, Dist: dist.Dist{Seq: 1, Metric: 1}})
	for _, p := range []addr.Prefix{
		{Addr: 1}, {Addr: 0x0a000001, Len: 8}, {Addr: math.MaxUint32, Len: 31}, {Len: -1}, {Len: 33}, {Len: 256}, {Len: 264},
		{Addr: 0x0a000000, Len: 264}, {Len: math.MinInt}, {Len: math.MaxInt},
	} {
		isNone(t, Rec{Kind: Own, Prefix: p})
		isNone(t, Rec{Kind: Own, Prefix: p, On: true})
		isNone(t, Rec{Kind: Floor, ID: 1, Prefix: p})
	}
	for _, seq := range []uint32{1<<30 + 1, 1 << 31, math.MaxUint32} {
		isNone(t, Rec{Kind: Lease, Dist: dist.Dist{Seq: seq}})
		isNone(t, Rec{Kind: Floor, ID: 1, Dist: dist.Dist{Seq: seq}})
	}
	isNone(t, Rec{Kind: Floor, ID: 1, Dist: dist.Dist{Metric: 65535}})
	isNone(t, Rec{Kind: Floor, ID: 1, Dist: dist.Dist{Seq: 1 << 30, Metric: 65535}})
	isNone(t, Rec{Kind: Lease, Dist: dist.Dist{Seq: 1, Metric: 65535}})
}

func TestSector(t *testing.T) {
	for _, c := range []struct {
		r      Rec
		digits string
	}{
		{Rec{Kind: Begin, Gen: 1, ID: 7}, "01 00 0000 00000001 00000000 00000007 00000000 00 000000 00000000"},
		{Rec{Kind: Begin, Gen: 0x11223344, LSN: 0x55667788, ID: 0x99aabbcc}, "01 00 0000 11223344 55667788 99aabbcc 00000000 00 000000 00000000"},
		{Rec{Kind: Own}, "02 00 0000 00000000 00000000 00000000 00000000 00 000000 00000000"},
		{Rec{Kind: Own, On: true}, "02 01 0000 00000000 00000000 00000000 00000000 00 000000 00000000"},
		{Rec{Kind: Own, Gen: 1, LSN: 2, Prefix: addr.Prefix{Addr: 0xc1a2b3c4, Len: 32}, On: true}, "02 01 0000 00000001 00000002 00000000 c1a2b3c4 20 000000 00000000"},
		{Rec{Kind: Own, Gen: 1, LSN: 2, Prefix: ten}, "02 00 0000 00000001 00000002 00000000 0a000000 08 000000 00000000"},
		{Rec{Kind: Lease, Gen: 5, LSN: 6, Dist: dist.Dist{Seq: 0x12345678}}, "03 00 0000 00000005 00000006 00000000 00000000 00 000000 12345678"},
		{Rec{Kind: Lease, Dist: dist.Dist{Seq: 1 << 30}}, "03 00 0000 00000000 00000000 00000000 00000000 00 000000 40000000"},
		{
			Rec{Kind: Floor, Gen: 1 << 31, LSN: 511, ID: 0x01020304, Prefix: ten, Dist: dist.Dist{Seq: 0x3a2b1c0d, Metric: 0xfedc}},
			"04 00 fedc 80000000 000001ff 01020304 0a000000 08 000000 3a2b1c0d",
		},
		{Rec{Kind: Floor, ID: 1, Dist: dist.Dist{Metric: 0x0102}}, "04 00 0102 00000000 00000000 00000001 00000000 00 000000 00000000"},
	} {
		want := sector(t, c.digits)
		if got := c.r.Sector(); !bytes.Equal(got, want) {
			t.Errorf("%+v: its sector\n%x, want\n%x", c.r, got, want)
		}
		if got, ok := Of(want); !ok || got != c.r {
			t.Errorf("Of(%x) = %+v, %v, want %+v", want, got, ok, c.r)
		}
	}
}

func TestSectorIsNewMemory(t *testing.T) {
	for _, r := range some() {
		a, b := r.Sector(), r.Sector()
		clear(a)
		if got, ok := Of(b); !ok || got != r {
			t.Errorf("%+v: the sectors of two calls share memory", r)
		}
		comesBack(t, r)
	}
}

func TestOfLeavesTheBytes(t *testing.T) {
	for _, b := range [][]byte{some()[3].Sector(), summed(make([]byte, 44)), bytes.Repeat([]byte{7}, 48)} {
		was := slices.Clone(b)
		Of(b)
		if !bytes.Equal(b, was) {
			t.Errorf("Of turned its bytes: %x, %x ahead of it", b, was)
		}
	}
	b := some()[3].Sector()
	r, _ := Of(b)
	clear(b)
	if r != some()[3] {
		t.Errorf("what Of told hangs on its bytes: %+v", r)
	}
}

func TestOfBytesThatAreNoSector(t *testing.T) {
	holdsNone(t, "nil", nil)
	holdsNone(t, "no bytes", []byte{})
	holdsNone(t, "noughts", make([]byte, 48))
	holdsNone(t, "noughts and their sum", summed(make([]byte, 44)))
	holdsNone(t, "ones", bytes.Repeat([]byte{0xff}, 48))
	for _, r := range some() {
		b := r.Sector()
		for n := range len(b) {
			holdsNone(t, "cut off", b[:n])
			holdsNone(t, "from behind its beginning on", b[n+1:])
			holdsNone(t, "with more behind it", append(slices.Clone(b), b[:n+1]...))
		}
		holdsNone(t, "with a nought behind it", append(slices.Clone(b), 0))
		holdsNone(t, "with a nought ahead of it", append([]byte{0}, b...))
		// A sum that is right over fewer or more bytes makes no sector of another length.
		holdsNone(t, "a byte short", summed(b[:43]))
		holdsNone(t, "a byte long", summed(append(slices.Clone(b[:44]), 0)))
	}
}

func TestOfSpoiltBits(t *testing.T) {
	random := rand.New(rand.NewSource(6))
	for _, r := range some() {
		whole := r.Sector()
		for bit := range 8 * len(whole) {
			b := slices.Clone(whole)
			b[bit/8] ^= 0x80 >> (bit % 8)
			holdsNone(t, "one bit turned", b)
			for k := bit + 1; k < min(bit+32, 8*len(b)); k++ {
				b[k/8] ^= byte(random.Intn(2)) << (7 - k%8)
			}
			holdsNone(t, "bits within 32 turned", b)
		}
	}
}

// With a sum that fits: bytes of which no field of a record tells.
func TestOfSectorsOfRecordsThatAreNone(t *testing.T) {
	for _, c := range []struct{ what, digits string }{
		{"kind 0", "00 00 0000 00000001 00000000 00000007 00000000 00 000000 00000000"},
		{"kind 5", "05 00 0000 00000001 00000000 00000007 00000000 00 000000 00000000"},
		{"kind 255", "ff 00 0000 00000001 00000000 00000007 00000000 00 000000 00000000"},
		{"kind 129", "81 00 0000 00000001 00000000 00000007 00000000 00 000000 00000000"},
		{"Begin of the router 0", "01 00 0000 00000001 00000000 00000000 00000000 00 000000 00000000"},
		{"Begin that is on", "01 01 0000 00000001 00000000 00000007 00000000 00 000000 00000000"},
		{"Begin with a metric", "01 00 0001 00000001 00000000 00000007 00000000 00 000000 00000000"},
		{"Begin with a prefix", "01 00 0000 00000001 00000000 00000007 0a000000 08 000000 00000000"},
		{"Begin with a number", "01 00 0000 00000001 00000000 00000007 00000000 00 000000 00000001"},
		{"On that is 2", "02 02 0000 00000001 00000002 00000000 0a000000 08 000000 00000000"},
		{"On that is 3", "02 03 0000 00000001 00000002 00000000 0a000000 08 000000 00000000"},
		{"On that is 255", "02 ff 0000 00000001 00000002 00000000 0a000000 08 000000 00000000"},
		{"Own with an ID", "02 01 0000 00000001 00000002 00000001 0a000000 08 000000 00000000"},
		{"Own with a number", "02 01 0000 00000001 00000002 00000000 0a000000 08 000000 00000001"},
		{"Own of a Len of 33", "02 01 0000 00000001 00000002 00000000 0a000000 21 000000 00000000"},
		{"Own of a Len of 255", "02 01 0000 00000001 00000002 00000000 0a000000 ff 000000 00000000"},
		{"Own with bits behind Len", "02 01 0000 00000001 00000002 00000000 0a000001 08 000000 00000000"},
		{"Lease with a metric", "03 00 0001 00000001 00000002 00000000 00000000 00 000000 00000004"},
		{"Lease that is Inf", "03 00 ffff 00000001 00000002 00000000 00000000 00 000000 00000004"},
		{"Lease with an ID", "03 00 0000 00000001 00000002 00000001 00000000 00 000000 00000004"},
		{"Lease above MaxSeq", "03 00 0000 00000001 00000002 00000000 00000000 00 000000 40000001"},
		{"Floor that is on", "04 01 0005 00000001 00000002 00000003 0a000000 08 000000 00000004"},
		{"Floor of the router 0", "04 00 0005 00000001 00000002 00000000 0a000000 08 000000 00000004"},
		{"Floor that is Inf", "04 00 ffff 00000001 00000002 00000003 0a000000 08 000000 00000004"},
		{"Floor above MaxSeq", "04 00 0005 00000001 00000002 00000003 0a000000 08 000000 ffffffff"},
		{"Floor with bits behind Len", "04 00 0005 00000001 00000002 00000003 0a000000 06 000000 00000004"},
		{"more behind Len", "02 01 0000 00000001 00000002 00000000 0a000000 08 800000 00000000"},
		{"more behind that", "02 01 0000 00000001 00000002 00000000 0a000000 08 000100 00000000"},
		{"more ahead of the number", "02 01 0000 00000001 00000002 00000000 0a000000 08 000001 00000000"},
	} {
		holdsNone(t, c.what, sector(t, c.digits))
	}
	for _, r := range some() {
		for at := 28; at < 44; at++ {
			b := r.Sector()[:44]
			b[at] = 1
			holdsNone(t, "more ahead of the sum", summed(b))
		}
	}
}

// Whatever one byte of a sector becomes, its sum mended: Of tells just the record whose sector that is.
func TestOfSectorsOneByteAway(t *testing.T) {
	for _, r := range some() {
		for at := range 44 {
			for c := range 256 {
				b := r.Sector()[:44]
				b[at] = byte(c)
				b = summed(b)
				got, ok := Of(b)
				if ok && (!got.Right() || !bytes.Equal(got.Sector(), b)) {
					t.Errorf("Of(%x) = %+v, whose sector is %x", b, got, got.Sector())
				}
				if !ok && got != (Rec{}) {
					t.Errorf("Of(%x) = %+v, false", b, got)
				}
			}
		}
	}
}

func TestAnyRecordComesBack(t *testing.T) {
	random := rand.New(rand.NewSource(7))
	for range 5000 {
		n := random.Intn(33)
		p := addr.Prefix{Addr: random.Uint32() &^ uint32(1<<(32-n)-1), Len: n}
		d := dist.Dist{Seq: uint32(random.Intn(api.MaxSeq + 1)), Metric: uint16(random.Intn(api.Inf))}
		id := random.Uint32() | 1<<random.Intn(32)
		for _, r := range []Rec{
			{Kind: Begin, ID: id},
			{Kind: Own, Prefix: p, On: random.Intn(2) == 1},
			{Kind: Lease, Dist: dist.Dist{Seq: d.Seq}},
			{Kind: Floor, ID: id, Prefix: p, Dist: d},
		} {
			r.Gen, r.LSN = random.Uint32(), random.Uint32()
			comesBack(t, r)
		}
	}
}
