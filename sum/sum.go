// Package sum is layer 1: see shared/doc/01-sum.md.
package sum

// The sum is a remainder by a polynomial: start is what it is of no bytes,
// turn the polynomial without its highest term.
const (
	start = 0xffffffff
	turn  = 0x04c11db7
	top   = 1 << 31
)

// Of is the sum of bytes.
func Of(b []byte) uint32 {
	s := uint32(start)
	for _, c := range b {
		s = eightHigher(s ^ uint32(c)<<24)
	}
	return s
}

// eightHigher is a sum eight places higher.
func eightHigher(s uint32) uint32 {
	for range 8 {
		high := s & top
		s <<= 1
		if high != 0 {
			s ^= turn
		}
	}
	return s
}
