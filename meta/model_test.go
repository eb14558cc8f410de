package meta_test

import (
	"bytes"
	"encoding/binary"
	"hash/crc32"
	"math/rand/v2"
	"testing"

	"regauge/api"
	"regauge/meta"
)

// longest is how long a key of a generation may be; 0 of what is none.
func longest(g int) int {
	switch g {
	case api.G1:
		return 16
	case api.G2:
		return 20
	case api.G3:
		return 24
	}
	return 0
}

// plainRight asks one thing behind the other, as the chapter has them.
func plainRight(m meta.Meta) bool {
	if m.Gen != api.G1 && m.Gen != api.G2 && m.Gen != api.G3 {
		return false
	}
	if m.Phase != 0 && m.Phase != 1 {
		return false
	}
	if m.Phase == 0 && m.Target != 0 || m.Phase == 1 && (m.Target <= m.Gen || m.Target > api.G3) {
		return false
	}
	if m.Txid < 1 || m.Txid > 1<<31-1 || m.Pages < 3 || m.Pages > 1<<14 {
		return false
	}
	if m.Root < 2 || m.Root > m.Pages-1 {
		return false
	}
	if m.List != 0 && (m.List < 2 || m.List > m.Pages-1) {
		return false
	}
	return len(m.Cursor) <= longest(m.Target)
}

// reseal puts the sum of all others into the last four bytes, by the library's own reckoning.
func reseal(b []byte) []byte {
	b = bytes.Clone(b)
	binary.LittleEndian.PutUint32(b[252:], crc32.Checksum(b[:252], crc32.MakeTable(crc32.Castagnoli)))
	return b
}

// page is bytes, zeros, the second mark and the sum.
func page(b ...byte) []byte {
	b = append(bytes.Clone(b), make([]byte, 256-len(b))...)
	copy(b[248:], "UAGR")
	return reseal(b)
}

// plainEncode is the page of a meta that may be.
func plainEncode(m meta.Meta) []byte {
	b := []byte{'R', 'G', 'A', 'U', byte(m.Gen), byte(m.Phase), byte(m.Target), byte(len(m.Cursor))}
	for _, n := range []int{m.Txid, m.Root, m.Pages, m.List} {
		if m.Gen == api.G1 {
			b = binary.LittleEndian.AppendUint32(b, uint32(n))
		} else {
			b = binary.LittleEndian.AppendUint64(b, uint64(n))
		}
	}
	return page(append(b, m.Cursor...)...)
}

// plainDecode reads each thing where it stands, and holds all that is left against 0.
func plainDecode(b []byte) (meta.Meta, api.Errno) {
	none := meta.Meta{}
	if len(b) != 256 || string(b[:4]) != "RGAU" || string(b[248:252]) != "UAGR" {
		return none, api.ErrMetaMagic
	}
	if !bytes.Equal(reseal(b), b) {
		return none, api.ErrMetaSum
	}
	m := meta.Meta{Gen: int(b[4]), Phase: int(b[5]), Target: int(b[6])}
	if longest(m.Gen) == 0 || m.Target > 3 {
		return none, api.ErrMetaGen
	}
	long, left := int(b[7]), b[8:248]
	for _, n := range []*int{&m.Txid, &m.Root, &m.Pages, &m.List} {
		x, width := uint64(binary.LittleEndian.Uint32(left)), 4
		if m.Gen != api.G1 {
			x, width = binary.LittleEndian.Uint64(left), 8
		}
		if x > 1<<31 {
			return none, api.ErrMetaForm
		}
		*n, left = int(x), left[width:]
	}
	if long > 24 {
		return none, api.ErrMetaForm
	}
	m.Cursor = bytes.Clone(left[:long])
	if !plainRight(m) || !bytes.Equal(left[long:], make([]byte, len(left)-long)) {
		return none, api.ErrMetaForm
	}
	return m, api.OK
}

// plainChoose looks at both pages apart.
func plainChoose(a, b []byte) (meta.Meta, int, api.Errno) {
	m, e := plainDecode(a)
	n, f := plainDecode(b)
	first := e == api.OK && m.Txid%2 == 0
	second := f == api.OK && n.Txid%2 == 1
	switch {
	case first && (!second || m.Txid > n.Txid):
		return m, 0, api.OK
	case second:
		return n, 1, api.OK
	case e == api.ErrMetaGen || f == api.ErrMetaGen:
		return meta.Meta{}, -1, api.ErrMetaGen
	}
	return meta.Meta{}, -1, api.ErrMetaForm
}

// equal holds two metas against each other without a call of the layer.
func equal(a, b meta.Meta) bool {
	return a.Gen == b.Gen && a.Phase == b.Phase && a.Target == b.Target && a.Txid == b.Txid &&
		a.Root == b.Root && a.Pages == b.Pages && a.List == b.List && string(a.Cursor) == string(b.Cursor)
}

func copyOf(m meta.Meta) meta.Meta {
	m.Cursor = bytes.Clone(m.Cursor)
	return m
}

// decodes holds Decode against the plain one.
func decodes(t *testing.T, b []byte) {
	t.Helper()
	was := bytes.Clone(b)
	m, e := meta.Decode(b)
	want, no := plainDecode(b)
	if e != no || !equal(m, want) {
		t.Errorf("Decode(%x) is %v, %d; want %v, %d", b, m, e, want, no)
	}
	if !bytes.Equal(b, was) {
		t.Errorf("Decode writes into %x", was)
	}
}

// chooses holds Choose against the plain one.
func chooses(t *testing.T, a, b []byte) {
	t.Helper()
	wasA, wasB := bytes.Clone(a), bytes.Clone(b)
	m, at, e := meta.Choose(a, b)
	want, slot, no := plainChoose(a, b)
	if at != slot || e != no || !equal(m, want) {
		t.Errorf("Choose(%x, %x) is %v, %d, %d; want %v, %d, %d", a, b, m, at, e, want, slot, no)
	}
	if !bytes.Equal(a, wasA) || !bytes.Equal(b, wasB) {
		t.Errorf("Choose writes into %x, %x", wasA, wasB)
	}
}

// dice tell the same each time.
func dice(seed uint64) *rand.Rand {
	return rand.New(rand.NewPCG(seed, 9))
}

func someBytes(r *rand.Rand, n int) []byte {
	b := make([]byte, n)
	for k := range b {
		b[k] = byte(r.Uint32())
	}
	return b
}

// someMeta is one that may be.
func someMeta(r *rand.Rand) meta.Meta {
	m := meta.Meta{Gen: 1 + r.IntN(3), Txid: 1 + r.IntN(1<<31-1), Pages: 3 + r.IntN(1<<14-2)}
	if r.IntN(3) == 0 {
		m.Txid, m.Pages = 1+r.IntN(9), 3+r.IntN(9)
	}
	m.Root = 2 + r.IntN(m.Pages-2)
	if r.IntN(3) > 0 {
		m.List = 2 + r.IntN(m.Pages-2)
	}
	if m.Gen < api.G3 && r.IntN(3) > 0 {
		m.Phase = meta.Moving
		m.Target = m.Gen + 1 + r.IntN(api.G3-m.Gen)
		m.Cursor = someBytes(r, r.IntN(longest(m.Target)+1))
	}
	return m
}
