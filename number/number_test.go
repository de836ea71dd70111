package number

import (
	"bytes"
	"math"
	"testing"
)

func TestPutAndGet(t *testing.T) {
	for _, c := range []struct {
		n uint32
		b []byte
	}{
		{0, []byte{}},
		{0, []byte{0}},
		{255, []byte{255}},
		{256, []byte{1, 0}},
		{0x1234, []byte{0x12, 0x34}},
		{0x010203, []byte{1, 2, 3}},
		{65536, []byte{1, 0, 0}},
		{1, []byte{0, 0, 0, 1}},
		{0x01020304, []byte{1, 2, 3, 4}},
		{0x80000000, []byte{0x80, 0, 0, 0}},
		{math.MaxUint32, []byte{255, 255, 255, 255}},
	} {
		b := bytes.Repeat([]byte{0xaa}, len(c.b)+2)
		Put(b[1:1+len(c.b)], c.n)
		if want := append(append([]byte{0xaa}, c.b...), 0xaa); !bytes.Equal(b, want) {
			t.Errorf("Put of %#x: %x, want %x", c.n, b, want)
		}
		if got := Get(c.b); got != c.n {
			t.Errorf("Get(%x) = %#x", c.b, got)
		}
	}
}

func TestPutOfWhatIsTooGreat(t *testing.T) {
	b := make([]byte, 2)
	Put(b, 0x01020304)
	if !bytes.Equal(b, []byte{3, 4}) {
		t.Errorf("Put: %x", b)
	}
	Put(nil, 7)
}
