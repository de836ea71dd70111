package dist

import (
	"math"
	"testing"

	"wayfarer/api"
)

func TestCompare(t *testing.T) {
	// From the worst to the best.
	rising := []Dist{
		{0, 65535}, {0, 65534}, {0, 32768}, {0, 32767}, {0, 1}, {0, 0},
		{1, 65535}, {1, 3}, {1, 0},
		{2, 65535}, {2, 9}, {2, 3},
		{1 << 30, 7}, {1<<31 - 1, 7}, {1 << 31, 7}, {math.MaxUint32, 65535}, {math.MaxUint32, 0},
	}
	for i, d := range rising {
		for j, o := range rising {
			want := 0
			if i < j {
				want = -1
			}
			if i > j {
				want = 1
			}
			if got := d.Compare(o); got != want {
				t.Errorf("%v.Compare(%v) = %d, want %d", d, o, got, want)
			}
		}
	}
}

func TestBeyond(t *testing.T) {
	for _, c := range []struct {
		d    Dist
		cost int
		want Dist
	}{
		{Dist{}, 1, Dist{0, 1}},
		{Dist{1, 5}, 3, Dist{1, 8}},
		{Dist{math.MaxUint32, 5}, 3, Dist{math.MaxUint32, 8}},
		// Below 1 counts as 1.
		{Dist{1, 5}, 1, Dist{1, 6}},
		{Dist{1, 5}, 0, Dist{1, 6}},
		{Dist{1, 5}, -1, Dist{1, 6}},
		{Dist{1, 5}, -65536, Dist{1, 6}},
		{Dist{1, 5}, math.MinInt, Dist{1, 6}},
		// Above MaxCost counts as that.
		{Dist{1, 5}, api.MaxCost - 1, Dist{1, 1004}},
		{Dist{1, 5}, api.MaxCost, Dist{1, 1005}},
		{Dist{1, 5}, api.MaxCost + 1, Dist{1, 1005}},
		{Dist{1, 5}, 65535, Dist{1, 1005}},
		{Dist{1, 5}, 65537, Dist{1, 1005}},
		{Dist{1, 5}, math.MaxInt, Dist{1, 1005}},
		// At and around Inf.
		{Dist{1, 65000}, 534, Dist{1, 65534}},
		{Dist{1, 65000}, 535, Dist{1, 65535}},
		{Dist{1, 65000}, 536, Dist{1, 65535}},
		{Dist{1, 65000}, math.MaxInt, Dist{1, 65535}},
		{Dist{1, 64534}, api.MaxCost, Dist{1, 65534}},
		{Dist{1, 64535}, api.MaxCost, Dist{1, 65535}},
		{Dist{1, 64536}, api.MaxCost, Dist{1, 65535}},
		{Dist{1, 65533}, 1, Dist{1, 65534}},
		{Dist{1, 65533}, 0, Dist{1, 65534}},
		{Dist{1, 65534}, 0, Dist{1, 65535}},
		{Dist{1, 65534}, 1, Dist{1, 65535}},
		{Dist{1, 65534}, 2, Dist{1, 65535}},
		{Dist{7, 65535}, 1, Dist{7, 65535}},
		{Dist{7, 65535}, 0, Dist{7, 65535}},
		{Dist{7, 65535}, math.MinInt, Dist{7, 65535}},
		{Dist{7, 65535}, math.MaxInt, Dist{7, 65535}},
	} {
		if got := c.d.Beyond(c.cost); got != c.want {
			t.Errorf("%v.Beyond(%d) = %v, want %v", c.d, c.cost, got, c.want)
		}
	}
}

func TestBeyondOfEachMetric(t *testing.T) {
	for metric := range 1 << 16 {
		for _, cost := range []int{1, 999, 1000} {
			want := metric + cost
			if want > 65535 {
				want = 65535
			}
			if got := (Dist{3, uint16(metric)}).Beyond(cost); got != (Dist{3, uint16(want)}) {
				t.Fatalf("%d beyond %d = %v, want %d", metric, cost, got, want)
			}
		}
	}
}

func TestLost(t *testing.T) {
	for metric := range 1 << 16 {
		for _, seq := range []uint32{0, 1, math.MaxUint32} {
			if got := (Dist{seq, uint16(metric)}).Lost(); got != (metric == 65535) {
				t.Fatalf("%v.Lost() = %v", Dist{seq, uint16(metric)}, got)
			}
		}
	}
}
