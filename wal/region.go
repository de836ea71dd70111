package wal

import (
	"wayfarer/api"
	"wayfarer/disk"
	"wayfarer/rec"
)

// The places of a region that aren't those of just any record.
const (
	atBegin = 0 // its Begin
	atFirst = 1 // the first one of its records
)

// region is a half of a disk: sectors for records of one generation, each of which has its place there as its LSN.
type region struct {
	disk  *disk.Disk
	first int // the number of its first sector
	size  int // how many sectors it has
	gen   uint32
}

// regions is the two of a disk; which generations they have isn't read yet.
func regions(d *disk.Disk) [2]region {
	half := d.Size() / 2
	return [2]region{
		{disk: d, size: half},
		{disk: d, first: half, size: half},
	}
}

// other is the other region of the disk, for the generation behind this one's.
func (g region) other() region {
	g.first = g.size - g.first
	g.gen++
	return g
}

// begun is the region with the generation that its Begin tells; false: it holds none of that router.
func (g region) begun(id uint32) (region, bool) {
	r, ok := g.at(atBegin)
	if !ok || r.Kind != rec.Begin || r.ID != id {
		return region{}, false
	}
	g.gen = r.Gen
	return g, true
}

// records is what stands behind its Begin.
func (g region) records() []rec.Rec {
	var list []rec.Rec
places:
	for place := range g.size {
		if place < atFirst {
			continue
		}
		r, ok := g.at(place)
		switch {
		case !ok, r.Kind == rec.Begin, r.Gen != g.gen:
			// What stands behind a gap is from earlier times, however right it looks.
			break places
		default:
			list = append(list, r)
		}
	}
	return list
}

// at is the record at a place; false: there is none that belongs there.
func (g region) at(place int) (rec.Rec, bool) {
	r, ok := held(g.disk, g.first+place)
	if !ok || r.LSN != uint32(place) {
		return rec.Rec{}, false
	}
	return r, true
}

// lay writes records from the first place on, and makes them safe.
func (g region) lay(list []rec.Rec) api.Errno {
	for i, r := range list {
		if e := g.write(atFirst+i, r); e != api.OK {
			return e
		}
	}
	return g.disk.Sync()
}

// put writes a record at a place, and makes it safe.
func (g region) put(place int, r rec.Rec) api.Errno {
	if e := g.write(place, r); e != api.OK {
		return e
	}
	return g.disk.Sync()
}

// write writes a record at a place.
func (g region) write(place int, r rec.Rec) api.Errno {
	r.Gen, r.LSN = g.gen, uint32(place)
	return g.disk.Write(g.first+place, r.Sector())
}

// greatest is the greatest generation of all records that a disk holds, whosever they are; 0: it holds none.
func greatest(d *disk.Disk) uint32 {
	gen := uint32(0)
	for i := range d.Size() {
		if r, ok := held(d, i); ok {
			gen = max(gen, r.Gen)
		}
	}
	return gen
}

// held is the record that a sector holds; false: none.
func held(d *disk.Disk, sector int) (rec.Rec, bool) {
	b, e := d.Read(sector)
	if e != api.OK {
		return rec.Rec{}, false
	}
	return rec.Of(b)
}
