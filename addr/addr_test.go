package addr

import (
	"fmt"
	"math"
	"math/rand"
	"strings"
	"testing"
)

// leading is an address's n highest bits as a text of noughts and ones.
func leading(a uint32, n int) string { return fmt.Sprintf("%032b", a)[:n] }

func TestRight(t *testing.T) {
	for _, c := range []struct {
		p    Prefix
		want bool
	}{
		{Prefix{}, true},
		{Prefix{1, 0}, false},
		{Prefix{1 << 31, 0}, false},
		{Prefix{1 << 31, 1}, true},
		{Prefix{1 << 30, 1}, false},
		{Prefix{0x0a000000, 8}, true},
		{Prefix{0x0a000000, 7}, true},
		{Prefix{0x0a000000, 6}, false},
		{Prefix{0x0a000001, 8}, false},
		{Prefix{0x0a800000, 8}, false},
		{Prefix{0xfffffffe, 31}, true},
		{Prefix{0xffffffff, 31}, false},
		{Prefix{0xffffffff, 32}, true},
		{Prefix{0, 32}, true},
		{Prefix{0, 33}, false},
		{Prefix{0xffffffff, 33}, false},
		{Prefix{0, 64}, false},
		{Prefix{0, 256}, false},
		{Prefix{0, -1}, false},
		{Prefix{0xffffffff, -1}, false},
		{Prefix{0, -32}, false},
		{Prefix{0, math.MaxInt}, false},
		{Prefix{0, math.MinInt}, false},
	} {
		if got := c.p.Right(); got != c.want {
			t.Errorf("%v.Right() = %v", c.p, got)
		}
	}
}

func TestRightBitByBit(t *testing.T) {
	for n := range 33 {
		for bit := range 32 {
			p := Prefix{1 << (31 - bit), n}
			if got := p.Right(); got != (bit < n) {
				t.Errorf("bit %d of /%d: Right = %v", bit, n, got)
			}
		}
	}
}

func TestHas(t *testing.T) {
	for _, c := range []struct {
		p    Prefix
		a    uint32
		want bool
	}{
		{Prefix{0x0a010000, 16}, 0x0a010203, true},
		{Prefix{0x0a010000, 16}, 0x0a020000, false},
		{Prefix{0x0a010000, 16}, 0x0a010000, true},
		{Prefix{0x0a010000, 16}, 0x0a01ffff, true},
		{Prefix{0x0a010000, 16}, 0x0a00ffff, false},
		{Prefix{0x0a010000, 16}, 0x8a010203, false},
		{Prefix{}, 0, true},
		{Prefix{}, 0xffffffff, true},
		{Prefix{0, 1}, 0x7fffffff, true},
		{Prefix{0, 1}, 0x80000000, false},
		{Prefix{7, 32}, 7, true},
		{Prefix{7, 32}, 6, false},
		{Prefix{0xffffffff, 32}, 0xffffffff, true},
		{Prefix{0xfffffffe, 31}, 0xffffffff, true},
		{Prefix{0xfffffffe, 31}, 0xfffffffd, false},
		{Prefix{1, 0}, 1, false},
		{Prefix{1, 8}, 1, false},
		{Prefix{0x0a010001, 16}, 0x0a010001, false},
		{Prefix{0, 33}, 0, false},
		{Prefix{0, -1}, 0, false},
		{Prefix{0, math.MaxInt}, 0, false},
		{Prefix{0, math.MinInt}, 0, false},
	} {
		if got := c.p.Has(c.a); got != c.want {
			t.Errorf("%v.Has(%#08x) = %v", c.p, c.a, got)
		}
	}
}

func TestHasBitByBit(t *testing.T) {
	r := rand.New(rand.NewSource(1))
	for n := range 33 {
		for range 50 {
			first := r.Uint32()
			p := Prefix{first &^ uint32(1<<(32-n)-1), n}
			for _, a := range []uint32{first, r.Uint32(), first ^ 1<<r.Intn(32), p.Addr} {
				want := leading(a, n) == leading(p.Addr, n)
				if got := p.Has(a); got != want {
					t.Errorf("%v.Has(%#08x) = %v", p, a, got)
				}
			}
		}
	}
}

func TestCompareByAddrThenLen(t *testing.T) {
	rising := []Prefix{
		{0, math.MinInt}, {0, -1}, {0, 0}, {0, 1}, {0, 32}, {0, 33}, {0, math.MaxInt},
		{5, 0}, {5, 32}, {0x0a000000, 8}, {0x0a000000, 9}, {0x0a010000, 0}, {0x0a010000, 16},
		{0x7fffffff, 32}, {0x80000000, 1}, {0xffffffff, -1}, {0xffffffff, 32},
	}
	for i, p := range rising {
		for j, o := range rising {
			want := 0
			if i < j {
				want = -1
			}
			if i > j {
				want = 1
			}
			if got := p.Compare(o); got != want {
				t.Errorf("%v.Compare(%v) = %d, want %d", p, o, got, want)
			}
		}
	}
}

func TestStringAndParse(t *testing.T) {
	for _, c := range []struct {
		p Prefix
		s string
	}{
		{Prefix{}, "0.0.0.0/0"},
		{Prefix{0, 32}, "0.0.0.0/32"},
		{Prefix{1 << 31, 1}, "128.0.0.0/1"},
		{Prefix{0x0a000000, 8}, "10.0.0.0/8"},
		{Prefix{0x0a010000, 16}, "10.1.0.0/16"},
		{Prefix{0x0a010203, 32}, "10.1.2.3/32"},
		{Prefix{0x01020304, 30}, "1.2.3.4/30"},
		{Prefix{0xfffffffe, 31}, "255.255.255.254/31"},
		{Prefix{0xffffffff, 32}, "255.255.255.255/32"},
		{Prefix{0x64656667, 32}, "100.101.102.103/32"},
	} {
		if got := c.p.String(); got != c.s {
			t.Errorf("String of %#08x, %d: %q, want %q", c.p.Addr, c.p.Len, got, c.s)
		}
		if p, ok := Parse(c.s); !ok || p != c.p {
			t.Errorf("Parse(%q) = %#08x, %d, %v", c.s, p.Addr, p.Len, ok)
		}
	}
}

func TestStringOfWhatIsntRight(t *testing.T) {
	for _, p := range []Prefix{
		{0, -1}, {0, 33}, {0, 256}, {0, math.MinInt}, {0, math.MaxInt}, {1, 0}, {1, 31}, {0x0a000001, 8}, {0xffffffff, 31},
	} {
		if s := p.String(); s != "" {
			t.Errorf("String of %#08x, %d: %q", p.Addr, p.Len, s)
		}
	}
}

func TestParseOfAllStrings(t *testing.T) {
	r := rand.New(rand.NewSource(2))
	for n := range 33 {
		for range 50 {
			p := Prefix{r.Uint32() &^ uint32(1<<(32-n)-1), n}
			a := p.Addr
			want := fmt.Sprintf("%d.%d.%d.%d/%d", a>>24, a>>16&255, a>>8&255, a&255, n)
			if s := p.String(); s != want {
				t.Errorf("String of %#08x, %d: %q, want %q", a, n, s, want)
			}
			if q, ok := Parse(want); !ok || q != p {
				t.Errorf("Parse(%q) = %#08x, %d, %v", want, q.Addr, q.Len, ok)
			}
		}
	}
}

func TestParseOfNearlyPrefixes(t *testing.T) {
	for _, s := range []string{
		"", "/", ".", "...", ".../", ".../0", "0", "/0", "0/0", "0.0.0/0", "0.0.0.0", "0.0.0.0/",
		"0.0.0.0.0/0", ".0.0.0.0/0", "0.0.0.0./0", "0..0.0/0", "0.0.0./0", ".0.0.0/0",
		"10.0.0.0/8/", "10.0.0.0/8/8", "10.0.0.0//8", "/10.0.0.0/8", "10/0.0.0.8", "10.0.0.0.8", "10.0.0/0.8",
		"10.0.0.1/8", "10.128.0.0/8", "1.0.0.0/0", "255.255.255.255/31", "255.255.255.255/0",
		"010.0.0.0/8", "10.00.0.0/8", "10.0.0.0/08", "10.0.0.0/008", "0.0.0.0/00", "00.0.0.0/0",
		"256.0.0.0/8", "10.0.0.256/32", "1000.0.0.0/8", "10.0.0.0/33", "10.0.0.0/100", "10.0.0.0/256",
		"4294967296.0.0.0/8", "18446744073709551626.0.0.0/8", "10.0.0.0/4294967304", "10.0.0.0/18446744073709551624",
		"+10.0.0.0/8", "-10.0.0.0/8", "10.0.0.0/+8", "10.0.0.0/-1", "-0.0.0.0/0", "0.0.0.0/-0",
		" 10.0.0.0/8", "10.0.0.0/8 ", "10.0.0.0/ 8", "10.0.0.0 /8", "10. 0.0.0/8", "10.0.0.0/8\n", "\t10.0.0.0/8",
		"10.0.0.0/8\x00", "10.0.0.0/8x", "0x0a.0.0.0/8", "a.0.0.0/8", "10.0.0.0/a", "1_0.0.0.0/8", "1e1.0.0.0/8",
		"10,0,0,0/8", "10:0.0.0/8", "10.0.0.0\\8", "10.0.0.0/8.", "10.0.0.0.8/8", "١٠.0.0.0/8", "10.0.0.0/８", "\xff.0.0.0/8",
		strings.Repeat("0", 1000) + ".0.0.0/0", strings.Repeat("1", 1000), strings.Repeat("0.", 1000) + "0/0",
	} {
		if p, ok := Parse(s); ok || p != (Prefix{}) {
			t.Errorf("Parse(%q) = %#08x, %d, %v", s, p.Addr, p.Len, ok)
		}
	}
}

// Every text that is one byte away from a prefix's is that of another prefix, or none's.
func TestParseOfTextsOneByteAway(t *testing.T) {
	check := func(s string) {
		p, ok := Parse(s)
		if ok && p.String() != s || !ok && p != (Prefix{}) {
			t.Errorf("Parse(%q) = %#08x, %d, %v", s, p.Addr, p.Len, ok)
		}
	}
	for _, s := range []string{"0.0.0.0/0", "10.1.0.0/16", "255.255.255.254/31", "200.100.0.0/32"} {
		for i := range len(s) + 1 {
			for c := range 256 {
				one := string([]byte{byte(c)})
				check(s[:i] + one + s[i:])
				if i < len(s) {
					check(s[:i] + one + s[i+1:])
				}
			}
			if i < len(s) {
				check(s[:i] + s[i+1:])
			}
		}
	}
}
