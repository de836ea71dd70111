// Package addr is layer 2: see shared/doc/02-addr.md.
package addr

import (
	"cmp"
	"strconv"
	"strings"
)

// The bounds of a prefix's numbers.
const (
	maxLen  = 32  // bits of an address
	maxByte = 255 // of an address's four
)

// Prefix is addresses that begin alike.
type Prefix struct {
	Addr uint32
	Len  int
}

// Right tells whether a prefix is one.
func (p Prefix) Right() bool {
	return p.Len >= 0 && p.Len <= maxLen && p.Addr&behind(p.Len) == 0
}

// Has tells whether an address is among a prefix's.
func (p Prefix) Has(a uint32) bool {
	return p.Right() && a&^behind(p.Len) == p.Addr
}

// behind is the bits of an address behind its n highest ones; n isn't below 0.
func behind(n int) uint32 { return ^uint32(0) >> n }

// Compare is the order of prefixes: by their addresses, then by their lengths.
func (p Prefix) Compare(o Prefix) int {
	return cmp.Or(cmp.Compare(p.Addr, o.Addr), cmp.Compare(p.Len, o.Len))
}

// String is a prefix as a text; nothing, if it is none.
func (p Prefix) String() string {
	if !p.Right() {
		return ""
	}
	s := ""
	for i := range 4 {
		if i > 0 {
			s += "."
		}
		s += strconv.Itoa(int(p.Addr >> (24 - 8*i) & maxByte))
	}
	return s + "/" + strconv.Itoa(p.Len)
}

// Parse is the prefix of a text; false: it is none.
func Parse(s string) (Prefix, bool) {
	var p Prefix
	for i := range 4 {
		mark := "."
		if i == 3 {
			mark = "/"
		}
		// A missing mark needs no look of its own: the rest is empty then, which is no number.
		head, rest, _ := strings.Cut(s, mark)
		n, ok := number(head, maxByte)
		if !ok {
			return Prefix{}, false
		}
		p.Addr = p.Addr<<8 | uint32(n)
		s = rest
	}
	n, ok := number(s, maxLen)
	p.Len = n
	if !ok || !p.Right() {
		return Prefix{}, false
	}
	return p, true
}

// number is the number from 0 to most, at most of three digits, that is told
// by a text in just the way in which String tells it.
func number(s string, most int) (int, bool) {
	if len(s) < 1 || len(s) > 3 || len(s) > 1 && s[0] == '0' {
		return 0, false
	}
	n := 0
	for i := range len(s) {
		if s[i] < '0' || s[i] > '9' {
			return 0, false
		}
		n = 10*n + int(s[i]-'0')
	}
	if n > most {
		return 0, false
	}
	return n, true
}
