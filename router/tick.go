package router

import (
	"slices"
	"wayfarer/api"
	"wayfarer/dist"
	"wayfarer/rec"
	"wayfarer/state"
	"wayfarer/tlv"
)

// Tick lets time go by: what is sent then.
func (r *Router) Tick() []Out {
	r.now++
	r.ways.Expire(r.now)
	if r.ownsSome() {
		r.advance()
	}
	all := tlv.Encode(r.told())
	var out []Out
	for n, cost := range r.costs {
		if cost == 0 {
			continue
		}
		for _, b := range all {
			// Cloned: no two neighbours share a datagram's bytes.
			out = append(out, Out{To: n, Data: slices.Clone(b)})
		}
	}
	return out
}

// ownsSome tells whether some prefix is its own.
func (r *Router) ownsSome() bool {
	for _, on := range r.State().Owns() {
		if on {
			return true
		}
	}
	return false
}

// advance lets its number be the next one, if it is time for that.
func (r *Router) advance() {
	if r.seq != 0 && r.now-r.since < api.Period {
		return
	}
	next := r.seq + 1
	if r.seq == 0 {
		// Above all that it told ahead of a crash.
		next = r.State().Lease() + 1
	}
	if next <= api.MaxSeq && r.leased(next) {
		r.seq, r.since = next, r.now
	}
}

// leased tells whether it may go up to a number; a lease that ends below that is made longer first.
func (r *Router) leased(seq uint32) bool {
	if seq <= r.State().Lease() {
		return true
	}
	last := min(seq+api.Lease-1, api.MaxSeq)
	return r.log.Append(rec.Rec{Kind: rec.Lease, Dist: dist.Dist{Seq: last}}) == api.OK
}

// told is what it tells its neighbours; what must be noted ahead of that is noted.
func (r *Router) told() []tlv.Update {
	var list []tlv.Update
	for _, s := range r.subjects() {
		if u, ok := r.update(s); ok {
			list = append(list, u)
		}
	}
	return list
}

// update is what it tells of a prefix; false: nothing.
func (r *Router) update(s subject) (tlv.Update, bool) {
	if r.owns(s.prefix) {
		u := tlv.Update{Prefix: s.prefix, ID: r.State().ID(), Dist: dist.Dist{Seq: r.seq}}
		return u, r.seq != 0
	}
	w, ok := r.way(s.prefix)
	if !ok {
		return tlv.Update{Prefix: s.prefix, Dist: dist.Dist{Metric: api.Inf}}, s.answers
	}
	u := tlv.Update{Prefix: s.prefix, ID: w.ID, Dist: r.reach(w)}
	return u, r.covered(u)
}

// covered tells whether it may tell something of a prefix that is another one's; what is better than all that it told is noted first.
func (r *Router) covered(u tlv.Update) bool {
	if r.State().Covers(state.Key{Prefix: u.Prefix, ID: u.ID}, u.Dist) {
		return true
	}
	return r.log.Append(rec.Rec{Kind: rec.Floor, ID: u.ID, Prefix: u.Prefix, Dist: u.Dist}) == api.OK
}
