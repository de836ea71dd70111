package net

import (
	"slices"
	"wayfarer/api"
)

// Packet is a datagram under way.
type Packet struct {
	From, To int
	Data     []byte
}

// Waiting is how many datagrams are under way.
func (w *Net) Waiting() int { return len(w.waiting) }

// waits tells whether a datagram of that number is under way.
func (w *Net) waits(k int) bool { return k >= 0 && k < w.Waiting() }

// Packet is a datagram under way; false: there is none.
func (w *Net) Packet(k int) (Packet, bool) {
	if !w.waits(k) {
		return Packet{}, false
	}
	p := w.waiting[k]
	p.Data = slices.Clone(p.Data)
	return p, true
}

// send lets a datagram be under way, behind all others; it is lost, if there are too many.
func (w *Net) send(p Packet) {
	if w.Waiting() < api.MaxWait {
		w.waiting = append(w.waiting, p)
	}
}

// Lose lets a datagram be lost.
func (w *Net) Lose(k int) api.Errno {
	if !w.waits(k) {
		return api.ErrNone
	}
	w.waiting = slices.Delete(w.waiting, k, k+1)
	return api.OK
}

// Again lets a datagram be under way twice.
func (w *Net) Again(k int) api.Errno {
	if !w.waits(k) {
		return api.ErrNone
	}
	// Both share their bytes, which nobody turns.
	w.send(w.waiting[k])
	return api.OK
}

// Deliver lets a datagram come, or so much of it.
func (w *Net) Deliver(k, most int) api.Errno {
	if !w.waits(k) {
		return api.ErrNone
	}
	p := w.waiting[k]
	w.Lose(k)
	if w.runs(p.To) {
		n := min(max(most, 0), len(p.Data))
		w.machines[p.To].Receive(p.From, p.Data[:n])
	}
	return api.OK
}
