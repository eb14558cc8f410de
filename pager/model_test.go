package pager_test

import (
	"bytes"
	"testing"

	"regauge/api"
	"regauge/disk"
	"regauge/meta"
	"regauge/pager"
)

// op is what a disk is asked for: bytes written from a sector on, or, if there are none, a Sync.
type op struct {
	at int
	b  []byte
}

// commitOps is what chapter 12 says of Commit, written down one by one.
func commitOps(l []pager.Write, m meta.Meta) []op {
	slot := m.Txid % 2 * 4
	ops := []op{{slot, make([]byte, 256)}}
	for _, w := range l {
		ops = append(ops, op{w.Id * 4, w.B})
	}
	return append(ops, op{}, op{slot, encoded(m)}, op{})
}

// formatOps is what it says of Format.
func formatOps(l []pager.Write, m meta.Meta) []op {
	ahead := m
	ahead.Txid = m.Txid - 1
	ops := []op{{ahead.Txid % 2 * 4, encoded(ahead)}, {m.Txid % 2 * 4, encoded(m)}}
	for _, w := range l {
		ops = append(ops, op{w.Id * 4, w.B})
	}
	return append(ops, op{})
}

// plain is bytes that are durable, and a row of sectors that are not.
type plain struct {
	durable []byte
	row     []op
}

// play is a disk of so many pages at least, which goes down at one of these ops.
func play(image []byte, pages int, ops []op, fuse int) plain {
	p := plain{durable: bytes.Clone(image)}
	for len(p.durable) < pages*256 {
		p.durable = append(p.durable, 0)
	}
	for k, o := range ops {
		if k > fuse {
			break
		}
		for s := 0; s < len(o.b); s += 64 {
			p.row = append(p.row, op{o.at + s/64, o.b[s : s+64]})
		}
		if len(o.b) == 0 && k < fuse {
			p = plain{durable: p.crashed([]bool{true})}
		}
	}
	return p
}

// crashed is what is durable if of the row these survive.
func (p plain) crashed(keep []bool) []byte {
	out := bytes.Clone(p.durable)
	for k, o := range p.row {
		if len(keep) > 0 && keep[k%len(keep)] {
			copy(out[o.at*64:], o.b)
		}
	}
	return out
}

// keeps are ways in which some of so many survive: none, all, each second one, one alone, all but one.
func keeps(many int) [][]bool {
	out := [][]bool{nil, {true}, {true, false}, {false, true}}
	for k := range many {
		one, others := make([]bool, many), make([]bool, many)
		for j := range many {
			one[j], others[j] = j == k, j != k
		}
		out = append(out, one, others)
	}
	return out
}

// eachKeep goes through all ways in which some of so many survive.
func eachKeep(many int, f func(keep []bool)) {
	keep := make([]bool, many)
	for bits := range 1 << many {
		for k := range keep {
			keep[k] = bits>>k&1 == 1
		}
		f(keep)
	}
}

// wantOps has a disk of that image go down at each op of a call, and none, and holds what it has against a plain one.
func wantOps(t *testing.T, what string, image []byte, m meta.Meta, ops []op, call func(p *pager.Pager) api.Errno) {
	t.Helper()
	for fuse := range len(ops) + 1 {
		want := play(image, m.Pages, ops, fuse)
		for _, keep := range keeps(len(want.row)) {
			d := disk.Load(image, 1<<16)
			p := pager.New(d)
			d.Arm(fuse)
			e := call(p)
			if down := fuse < len(ops); d.Down() != down || (e == api.ErrDown) != down || (e == api.OK) == down {
				t.Fatalf("%s, down at op %d: error %d, down: %v", what, fuse, e, d.Down())
			}
			if d.Ops() != min(fuse+1, len(ops)) || d.Pending() != len(want.row) || !bytes.Equal(d.Image(), want.crashed([]bool{true})) {
				t.Fatalf("%s, down at op %d: %d ops, %d pending of %d, or other bytes", what, fuse, d.Ops(), d.Pending(), len(want.row))
			}
			d.Crash(keep)
			if !bytes.Equal(d.Image(), want.crashed(keep)) {
				t.Fatalf("%s, down at op %d, kept %v: other bytes survived", what, fuse, keep)
			}
		}
	}
}

// plainRight counts how often each page is written.
func plainRight(l []pager.Write, m meta.Meta) bool {
	times := map[int]int{}
	for _, w := range l {
		if len(w.B) == 0 || len(w.B)%256 != 0 || w.Id < 2 || w.Id >= m.Pages {
			return false
		}
		for k := 0; k < len(w.B); k += 256 {
			times[w.Id+k/256]++
		}
	}
	for page, n := range times {
		if page >= m.Pages || n > 1 {
			return false
		}
	}
	return meta.Right(m)
}
