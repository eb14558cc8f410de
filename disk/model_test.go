package disk_test

import (
	"bytes"
	"math/rand/v2"
	"testing"

	"regauge/api"
	"regauge/disk"
)

// model is a disk written down as plainly as the chapter tells it: what is durable, and a row laid over it at each read.
type model struct {
	limit int
	base  []byte
	row   []turn
	ops   int
	arm   int
	down  bool
}

type turn struct {
	at int
	b  []byte
}

func (m *model) size() int {
	return len(m.base) / api.Sector
}

func (m *model) image() []byte {
	b := bytes.Clone(m.base)
	for _, w := range m.row {
		copy(b[w.at*api.Sector:], w.b)
	}
	return b
}

func (m *model) op() api.Errno {
	m.ops++
	m.arm--
	if m.arm == -1 {
		m.down = true
		return api.ErrDown
	}
	return api.OK
}

func (m *model) grow(n int) api.Errno {
	switch {
	case m.down:
		return api.ErrDown
	case n > m.limit:
		return api.ErrFull
	}
	for m.size() < n {
		m.base = append(m.base, make([]byte, api.Sector)...)
	}
	return api.OK
}

func (m *model) read(at, many int) ([]byte, api.Errno) {
	switch {
	case m.down:
		return nil, api.ErrDown
	case at < 0 || many < 0 || at+many > m.size():
		return nil, api.ErrRange
	}
	return m.image()[at*api.Sector : (at+many)*api.Sector], api.OK
}

func (m *model) write(at int, b []byte) api.Errno {
	many := len(b) / api.Sector
	switch {
	case m.down:
		return api.ErrDown
	case many == 0 || len(b)%api.Sector != 0:
		return api.ErrArg
	case at < 0 || at+many > m.size():
		return api.ErrRange
	}
	for i := range many {
		m.row = append(m.row, turn{at + i, bytes.Clone(b[i*api.Sector : (i+1)*api.Sector])})
	}
	return m.op()
}

func (m *model) sync() api.Errno {
	if m.down {
		return api.ErrDown
	}
	if e := m.op(); e != api.OK {
		return e
	}
	m.base, m.row = m.image(), nil
	return api.OK
}

func (m *model) crash(keep []bool) {
	var kept []turn
	for k, w := range m.row {
		if len(keep) > 0 && keep[k%len(keep)] {
			kept = append(kept, w)
		}
	}
	m.row = kept
	m.base, m.row, m.down, m.arm = m.image(), nil, false, -1
}

func (m *model) copy() *model {
	c := *m
	c.base = bytes.Clone(m.base)
	c.row = append([]turn(nil), m.row...)
	return &c
}

// pair is a disk and its model, to which the same is done.
type pair struct {
	d *disk.Disk
	m *model
}

func (p pair) same(t *testing.T, seed uint64, i, kind int) {
	t.Helper()
	d, m := p.d, p.m
	if !bytes.Equal(d.Image(), m.image()) || d.Size() != m.size() || d.Limit() != m.limit || d.Pending() != len(m.row) || d.Ops() != m.ops || d.Down() != m.down {
		t.Fatalf("seed %d, call %d of kind %d: Size %d, %d; Pending %d, %d; Ops %d, %d; Down %v, %v; Image %v, %v", seed, i, kind, d.Size(), m.size(), d.Pending(), len(m.row), d.Ops(), m.ops, d.Down(), m.down, heads(d.Image()), heads(m.image()))
	}
}

func someBytes(r *rand.Rand) []byte {
	b := make([]byte, r.IntN(4)*api.Sector)
	if r.IntN(12) == 0 {
		b = append(b, 1)
	}
	for i := range b {
		b[i] = byte(r.Uint32())
	}
	return b
}

func someKeep(r *rand.Rand) []bool {
	keep := make([]bool, r.IntN(5))
	for i := range keep {
		keep[i] = r.IntN(2) == 0
	}
	return keep
}

// do does one call to both, and tells whether they answered the same.
func (p pair) do(r *rand.Rand, kind int) bool {
	switch kind {
	case 0:
		n := r.IntN(p.m.limit+3) - 1
		return p.d.Grow(n) == p.m.grow(n)
	case 1, 2:
		at, many := r.IntN(p.m.limit+2)-1, r.IntN(4)-1
		b, e := p.d.Read(at, many)
		c, f := p.m.read(at, many)
		return e == f && bytes.Equal(b, c)
	case 3, 4, 5, 6:
		at, b := r.IntN(p.m.limit+2)-1, someBytes(r)
		return p.d.Write(at, b) == p.m.write(at, b)
	case 7:
		return p.d.Sync() == p.m.sync()
	case 8:
		n := r.IntN(8) - 2
		p.d.Arm(n)
		p.m.arm = max(n, -1)
	case 9:
		keep := someKeep(r)
		p.d.Crash(keep)
		p.m.crash(keep)
	}
	return true
}

func TestP1AnyCallsAsTheChapterTells(t *testing.T) {
	for seed := range uint64(300) {
		r := rand.New(rand.NewPCG(seed, 1))
		limit := 1 + r.IntN(9)
		image := marked(limit + 2)[:r.IntN((limit+2)*api.Sector)]
		base := append(bytes.Clone(image), make([]byte, (api.Sector-len(image)%api.Sector)%api.Sector)...)
		p := pair{disk.Load(image, limit), &model{limit: limit, base: base[:min(len(base), limit*api.Sector)], arm: -1}}
		var other pair
		for i := range 200 {
			kind := r.IntN(12)
			if kind == 10 {
				other = pair{p.d.Copy(), p.m.copy()}
			} else if kind == 11 && other.d != nil {
				p, other = other, p
			} else if !p.do(r, kind) {
				t.Fatalf("seed %d, call %d of kind %d: another answer", seed, i, kind)
			}
			p.same(t, seed, i, kind)
			if other.d != nil {
				other.same(t, seed, i, kind)
			}
		}
	}
}
