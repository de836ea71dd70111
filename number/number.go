// Package number writes numbers as bytes, the highest byte first, and reads them.
package number

// Put writes a number into all of some bytes; of a number that is too great for them, its lowest bytes.
func Put(b []byte, n uint32) {
	for i := range b {
		b[i] = byte(n >> (8 * (len(b) - 1 - i)))
	}
}

// Get is the number that some bytes hold, which are at most four.
func Get(b []byte) uint32 {
	n := uint32(0)
	for _, c := range b {
		n = n<<8 | uint32(c)
	}
	return n
}
