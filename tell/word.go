package tell

import (
	"strconv"
	"strings"
	"wayfarer/fib"
)

// worded is whatever has a word: an error, a number, and so on.
type worded interface {
	Word() string
}

// text is its own word.
type text string

// Word is that text.
func (t text) Word() string { return string(t) }

// number is told by its digits.
type number int64

// Word is those digits.
func (n number) Word() string { return strconv.FormatInt(int64(n), 10) }

// how is what becomes of what is sent.
type how fib.How

// Word is a how's word; none of what is no how.
func (h how) Word() string {
	words := [...]string{fib.NoRoute: "none", fib.Here: "here", fib.Via: "via", fib.Blackhole: "drop"}
	if h < 0 || int(h) >= len(words) {
		return ""
	}
	return words[h]
}

// line is words, a space between each two.
func line(parts ...worded) string {
	words := make([]string, len(parts))
	for i, p := range parts {
		words[i] = p.Word()
	}
	return strings.Join(words, " ")
}
