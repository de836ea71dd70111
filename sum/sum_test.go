package sum

import (
	"bytes"
	"hash/crc32"
	"math/bits"
	"math/rand"
	"slices"
	"testing"
)

func TestOfKnownSums(t *testing.T) {
	for _, c := range []struct {
		b    []byte
		want uint32
	}{
		{nil, 0xffffffff},
		{[]byte{}, 0xffffffff},
		{[]byte("123456789"), 0x0376e6e7},
		{[]byte{0}, 0x4e08bfb4},
		{[]byte{0xff}, 0xffffff00},
		{[]byte{0xff, 0xff, 0xff, 0xff}, 0},
		{[]byte{0xff, 0xff, 0xff, 0xff, 1}, 0x04c11db7},
		{[]byte{0xff, 0xff, 0xff, 0xff, 0x80}, 0x690ce0ee},
	} {
		if got := Of(c.b); got != c.want {
			t.Errorf("Of(%x) = %#08x, want %#08x", c.b, got, c.want)
		}
	}
}

// mirrored is the same sum by the library's crc32: that goes through each
// byte from its lowest bit on, and turns all bits at the end.
func mirrored(b []byte) uint32 {
	turned := make([]byte, len(b))
	for i, c := range b {
		turned[i] = bits.Reverse8(c)
	}
	return ^bits.Reverse32(crc32.ChecksumIEEE(turned))
}

func TestOfIsTheMirroredLibrarySum(t *testing.T) {
	r := rand.New(rand.NewSource(1))
	for n := range 200 {
		b := make([]byte, n)
		r.Read(b)
		if Of(b) != mirrored(b) {
			t.Fatalf("Of(%x) = %#08x, want %#08x", b, Of(b), mirrored(b))
		}
	}
}

func TestOfTellsLengthsApart(t *testing.T) {
	seen := map[uint32]int{}
	for n := range 100 {
		s := Of(make([]byte, n))
		if was, ok := seen[s]; ok {
			t.Errorf("%d and %d noughts have the same sum", was, n)
		}
		seen[s] = n
	}
}

func TestOfLeavesTheBytes(t *testing.T) {
	b := []byte("123456789")
	was := slices.Clone(b)
	if Of(b) != Of(b) || !bytes.Equal(b, was) {
		t.Errorf("Of turned its bytes, or its answer: %x", b)
	}
}

// flip turns a bit of bytes, counted from the highest one of the first byte on.
func flip(b []byte, bit int) { b[bit/8] ^= 0x80 >> (bit % 8) }

// rank is how many of some words are independent by exclusive or.
func rank(words []uint32) int {
	words = slices.Clone(words)
	n := 0
	for bit := range 32 {
		at := slices.IndexFunc(words[n:], func(w uint32) bool { return w>>bit&1 == 1 })
		if at < 0 {
			continue
		}
		words[n], words[n+at] = words[n+at], words[n]
		for i := range words {
			if i != n && words[i]>>bit&1 == 1 {
				words[i] ^= words[n]
			}
		}
		n++
	}
	return n
}

// What turned bits do to a sum is the exclusive or of what each one does
// alone. So if 32 side by side are independent, no choice of them leaves it.
func TestOfTellsAnyTurnWithin32Bits(t *testing.T) {
	b := make([]byte, 48)
	rand.New(rand.NewSource(2)).Read(b)
	whole := Of(b)
	var turns []uint32
	for bit := range 8 * len(b) {
		flip(b, bit)
		turns = append(turns, Of(b)^whole)
		flip(b, bit)
	}
	for at := 0; at+32 <= len(turns); at++ {
		if n := rank(turns[at : at+32]); n != 32 {
			t.Errorf("of the 32 bits from %d on only %d are independent", at, n)
		}
	}
}

func TestOfTellsSomeTurnsWithin32Bits(t *testing.T) {
	r := rand.New(rand.NewSource(3))
	for range 5000 {
		b := make([]byte, 1+r.Intn(60))
		r.Read(b)
		whole := Of(b)
		first := r.Intn(8 * len(b))
		flip(b, first)
		for bit := first + 1; bit < min(first+32, 8*len(b)); bit++ {
			if r.Intn(2) == 1 {
				flip(b, bit)
			}
		}
		if Of(b) == whole {
			t.Fatalf("turned from bit %d on, %x keeps its sum", first, b)
		}
	}
}

func TestOfTellsAllPairsOfBytesApart(t *testing.T) {
	seen := map[uint32]bool{}
	for i := range 1 << 16 {
		seen[Of([]byte{byte(i >> 8), byte(i)})] = true
	}
	if len(seen) != 1<<16 {
		t.Errorf("65536 pairs have %d sums", len(seen))
	}
}
