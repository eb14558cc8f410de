// Package disk is layer 1: a disk of sectors that may go down, and of whose writes that were not synced any may survive. See shared/doc/01-disk.md.
package disk

import (
	"slices"

	"regauge/api"
)

type sector [api.Sector]byte

// write is one sector's turn in the row of what is not durable.
type write struct {
	at   int
	data sector
}

// Disk has sectors, and a row of writes that are not durable.
type Disk struct {
	limit   int
	durable []sector // what is there when all of the row is lost
	seen    []sector // durable with the row laid over it, so that no read goes through the row
	row     []write
	ops     int
	armed   bool
	left    int // ops that still go well, if it is armed
	down    bool
}

// New makes a disk without sectors.
func New(limit int) *Disk {
	return Load(nil, limit)
}

// Load makes a disk that has these bytes, as far as it may have them.
func Load(image []byte, limit int) *Disk {
	limit = min(max(limit, 0), api.MaxDisk)
	durable := sectorsOf(image[:min(len(image), limit*api.Sector)])
	return &Disk{limit: limit, durable: durable, seen: slices.Clone(durable)}
}

// sectorsOf copies bytes into sectors; the last one is filled up with zeros.
func sectorsOf(b []byte) []sector {
	l := make([]sector, (len(b)+api.Sector-1)/api.Sector)
	for i := range l {
		copy(l[i][:], b[i*api.Sector:])
	}
	return l
}

// bytesOf copies sectors into bytes.
func bytesOf(l []sector) []byte {
	b := make([]byte, len(l)*api.Sector)
	for i := range l {
		copy(b[i*api.Sector:], l[i][:])
	}
	return b
}

// Size is how many sectors there are.
func (d *Disk) Size() int {
	return len(d.seen)
}

// Limit is how many sectors there may be.
func (d *Disk) Limit() int {
	return d.limit
}

// Grow sees to it that there are n sectors at least.
func (d *Disk) Grow(n int) api.Errno {
	if d.down {
		return api.ErrDown
	}
	if n > d.limit {
		return api.ErrFull
	}
	if n > d.Size() {
		fresh := make([]sector, n-d.Size())
		d.durable = append(d.durable, fresh...)
		d.seen = append(d.seen, fresh...)
	}
	return api.OK
}

// has tells whether many sectors from at on are there. (A sum of both could go round.)
func (d *Disk) has(at, many int) bool {
	return at >= 0 && many >= 0 && many <= d.Size()-at
}

// Read tells what was written last.
func (d *Disk) Read(at, many int) ([]byte, api.Errno) {
	if d.down {
		return nil, api.ErrDown
	}
	if !d.has(at, many) {
		return nil, api.ErrRange
	}
	return bytesOf(d.seen[at : at+many]), api.OK
}

// Write puts whole sectors into the row. They stand there even if the disk goes down at it: any of them may have got through.
func (d *Disk) Write(at int, b []byte) api.Errno {
	if d.down {
		return api.ErrDown
	}
	if len(b) == 0 || len(b)%api.Sector != 0 {
		return api.ErrArg
	}
	if !d.has(at, len(b)/api.Sector) {
		return api.ErrRange
	}
	for i, s := range sectorsOf(b) {
		d.row = append(d.row, write{at + i, s})
		d.seen[at+i] = s
	}
	return d.op()
}

// Sync makes all of the row durable.
func (d *Disk) Sync() api.Errno {
	if d.down {
		return api.ErrDown
	}
	if e := d.op(); e != api.OK {
		return e
	}
	for _, w := range d.row {
		d.durable[w.at] = w.data
	}
	d.row = nil
	return api.OK
}

// op counts an op, which brings the disk down if it is the one that was armed.
func (d *Disk) op() api.Errno {
	d.ops++
	if !d.armed {
		return api.OK
	}
	if d.left > 0 {
		d.left--
		return api.OK
	}
	d.down = true
	return api.ErrDown
}

// Arm has the n-th op from now on bring the disk down (0: the next one; below 0: none).
func (d *Disk) Arm(n int) {
	d.armed, d.left = n >= 0, max(n, 0)
}

// Down tells whether the disk is down.
func (d *Disk) Down() bool {
	return d.down
}

// Pending is how many writes are in the row.
func (d *Disk) Pending() int {
	return len(d.row)
}

// Crash keeps of the row what keep says, loses the others, and brings the disk up.
func (d *Disk) Crash(keep []bool) {
	for k, w := range d.row {
		if len(keep) > 0 && keep[k%len(keep)] {
			d.durable[w.at] = w.data
		}
	}
	for _, w := range d.row {
		d.seen[w.at] = d.durable[w.at]
	}
	d.row, d.down = nil, false
	d.Arm(-1)
}

// Image is all bytes, as reads see them.
func (d *Disk) Image() []byte {
	return bytesOf(d.seen)
}

// Ops is how many ops there were.
func (d *Disk) Ops() int {
	return d.ops
}

// Copy is a disk of its own, just so.
func (d *Disk) Copy() *Disk {
	c := *d
	c.durable = slices.Clone(d.durable)
	c.seen = slices.Clone(d.seen)
	c.row = slices.Clone(d.row)
	return &c
}
