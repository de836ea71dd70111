// Package dist is layer 3: see shared/doc/03-dist.md.
package dist

import (
	"cmp"
	"wayfarer/api"
)

// Dist is how far away something is: by a sequence number, and a metric.
type Dist struct {
	Seq    uint32
	Metric uint16
}

// Compare is the order of two: 1, if the first is better: newer, or as new and nearer; -1, if the second is.
func (d Dist) Compare(o Dist) int {
	return cmp.Or(cmp.Compare(d.Seq, o.Seq), cmp.Compare(o.Metric, d.Metric))
}

// Beyond is a distance over a link besides.
func (d Dist) Beyond(cost int) Dist {
	cost = min(max(cost, 1), api.MaxCost)
	// As ints: a sum of two uint16 would wrap round instead of being lost.
	metric := min(int(d.Metric)+cost, api.Inf)
	return Dist{Seq: d.Seq, Metric: uint16(metric)}
}

// Lost tells whether something can't be reached.
func (d Dist) Lost() bool { return d.Metric == api.Inf }
