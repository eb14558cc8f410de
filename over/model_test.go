package over_test

import (
	"bytes"
	"encoding/binary"
	"hash/crc32"
	"math/rand/v2"
	"testing"

	"regauge/api"
	"regauge/over"
)

// limits is what a generation has, as the chapters tell it.
type limits struct{ value, id, head, room int }

func limitsOf(g int) limits {
	switch g {
	case api.G1:
		return limits{400, 4, 8, 248}
	case api.G2:
		return limits{800, 8, 16, 240}
	case api.G3:
		return limits{1600, 8, 16, 240}
	}
	return limits{}
}

// plainMany counts pages one by one, until the value has room.
func plainMany(g, size int) int {
	has := limitsOf(g)
	if size <= 32 || size > has.value {
		return 0
	}
	many := 1
	for room := has.room; room < size; many++ {
		if g == api.G3 {
			room += 256
		} else {
			room += has.room
		}
	}
	return many
}

// number is n in so many bytes, the lowest one first.
func number(n, width int) []byte {
	return binary.LittleEndian.AppendUint64(nil, uint64(n))[:width]
}

// head is a head of Kind Over, without its sum.
func head(g, count, next int) []byte {
	b := append([]byte{'O', byte(g)}, number(count, 2)...)
	if g != api.G1 {
		b = append(b, 0, 0, 0, 0)
	}
	return append(b, number(next, limitsOf(g).id)...)
}

// filled is bytes, and zeros up to so many pages.
func filled(b []byte, many int) []byte {
	return append(bytes.Clone(b), make([]byte, 256*many-len(b))...)
}

// reseal puts the sum of all others into bytes 4 to 7, by the library's own reckoning.
func reseal(b []byte) []byte {
	b = bytes.Clone(b)
	t := crc32.MakeTable(crc32.Castagnoli)
	binary.LittleEndian.PutUint32(b[4:], crc32.Update(crc32.Checksum(b[:4], t), t, b[8:]))
	return b
}

// plainLink is a page of a chain.
func plainLink(g, count, next int, part []byte) []byte {
	b := filled(append(head(g, count, next), part...), 1)
	if g == api.G2 {
		return reseal(b)
	}
	return b
}

// plainExtent is an extent's pages, one behind the other.
func plainExtent(count, next, many int, value []byte) []byte {
	return reseal(filled(append(head(api.G3, count, next), value...), many))
}

// plainEncode is the pages of a value that may be, in pages that may be.
func plainEncode(g int, value []byte, ids []int) [][]byte {
	var l [][]byte
	if g == api.G3 {
		b := plainExtent(len(ids), len(value), len(ids), value)
		for k := range ids {
			l = append(l, b[256*k:256*k+256])
		}
		return l
	}
	for k := range ids {
		part := value[:min(len(value), limitsOf(g).room)]
		value = value[len(part):]
		next := 0
		if k < len(ids)-1 {
			next = ids[k+1]
		}
		l = append(l, plainLink(g, len(part), next, part))
	}
	return l
}

// file is pages, by their numbers, and what was asked for.
type file struct {
	pages map[int][]byte
	asked [][2]int
}

// fileOf has the pages of a value, and no others.
func fileOf(l [][]byte, ids []int) *file {
	f := &file{pages: map[int][]byte{}}
	for k, id := range ids {
		f.pages[id] = bytes.Clone(l[k])
	}
	return f
}

func (f *file) read(id, many int) ([]byte, api.Errno) {
	f.asked = append(f.asked, [2]int{id, many})
	if many < 1 {
		return nil, api.ErrArg
	}
	var b []byte
	for k := range many {
		p, is := f.pages[id+k]
		if !is {
			return nil, api.ErrRange
		}
		b = append(b, p...)
	}
	return b, api.OK
}

func (f *file) copy() *file {
	c := &file{pages: map[int][]byte{}}
	for id, b := range f.pages {
		c.pages[id] = bytes.Clone(b)
	}
	return c
}

func (f *file) same(o *file) bool {
	for id, b := range f.pages {
		if !bytes.Equal(b, o.pages[id]) {
			return false
		}
	}
	return len(f.pages) == len(o.pages)
}

// plainDecode asks of each byte of each page whether it may be there. (The first page is there.)
func plainDecode(f *file, id, size int) (int, []byte, []int, bool) {
	first := f.pages[id]
	if first[0] != 'O' || first[1] < 1 || first[1] > 3 {
		return 0, nil, nil, false
	}
	g := int(first[1])
	many := plainMany(g, size)
	if many == 0 {
		return 0, nil, nil, false
	}
	var value []byte
	var ids []int
	var is bool
	if g == api.G3 {
		value, ids, is = plainReadExtent(f, id, size, many)
	} else {
		value, ids, is = plainReadChain(f, g, id, size, many)
	}
	if !is {
		return 0, nil, nil, false
	}
	return g, value, ids, true
}

func plainReadChain(f *file, g, id, size, many int) ([]byte, []int, bool) {
	has := limitsOf(g)
	var value []byte
	var ids []int
	met := map[int]bool{}
	for k := range many {
		b, is := f.pages[id]
		if !is || id < 2 || id >= 1<<14 || met[id] {
			return nil, nil, false
		}
		met[id] = true
		ids = append(ids, id)
		long := min(has.room, size-len(value))
		next := b[has.head-has.id : has.head]
		id = int(next[0]) + 256*int(next[1])
		if b[0] != 'O' || int(b[1]) != g || int(b[2])+256*int(b[3]) != long || !isZero(next[2:]) || (k == many-1) != (id == 0) {
			return nil, nil, false
		}
		if g == api.G2 && !bytes.Equal(b, reseal(b)) || !isZero(b[has.head+long:]) {
			return nil, nil, false
		}
		value = append(value, b[has.head:has.head+long]...)
	}
	return value, ids, true
}

func plainReadExtent(f *file, id, size, many int) ([]byte, []int, bool) {
	var b []byte
	var ids []int
	for k := range many {
		p, is := f.pages[id+k]
		if !is || id+k < 2 || id+k >= 1<<14 {
			return nil, nil, false
		}
		b = append(b, p...)
		ids = append(ids, id+k)
	}
	if int(b[2]) != many || b[3] != 0 || int(b[8])+256*int(b[9]) != size || !isZero(b[10:16]) || !isZero(b[16+size:]) || !bytes.Equal(b, reseal(b)) {
		return nil, nil, false
	}
	return b[16 : 16+size], ids, true
}

func isZero(b []byte) bool {
	return len(bytes.Trim(b, "\x00")) == 0
}

// decodes tells whether Decode tells just what the plain reading does, keeps to what it is given, and asks for no more than it may.
func decodes(t *testing.T, f *file, id, size int) {
	t.Helper()
	was := f.copy()
	f.asked = nil
	g, value, ids, e := over.Decode(f.read, id, size)
	wantG, wantValue, wantIds, is := plainDecode(was, id, size)
	want := api.OK
	if !is {
		want = api.ErrOverForm
	}
	if g != wantG || !bytes.Equal(value, wantValue) || !same(ids, wantIds) || e != want {
		t.Fatalf("page %d, size %d of %x: %d, %x, %v, %d; want %d, %x, %v, %d", id, size, was.pages, g, value, ids, e, wantG, wantValue, wantIds, want)
	}
	if !f.same(was) {
		t.Fatalf("page %d, size %d of %x: what was read is changed", id, size, was.pages)
	}
	if len(f.asked) > 20 {
		t.Fatalf("page %d, size %d of %x: asked for %v", id, size, was.pages, f.asked)
	}
	if e != api.OK {
		return
	}
	again, e := over.Encode(g, value, ids)
	for k, id := range ids {
		if e != api.OK || !bytes.Equal(again[k], was.pages[id]) {
			t.Fatalf("page %d, size %d of %x: other pages are decoded as the same", id, size, was.pages)
		}
	}
}

func same(a, b []int) bool {
	if len(a) != len(b) {
		return false
	}
	for k := range a {
		if a[k] != b[k] {
			return false
		}
	}
	return true
}

// dice are always the same row of numbers.
func dice(seed uint64) *rand.Rand {
	return rand.New(rand.NewPCG(seed, 8))
}

func someBytes(r *rand.Rand, n int) []byte {
	b := make([]byte, n)
	for k := range b {
		b[k] = byte(r.Uint32())
	}
	return b
}

// someIds are pages that a value of so many may have.
func someIds(r *rand.Rand, g, many int) []int {
	if g == api.G3 {
		return row(2+r.IntN(1<<14-2-many), many)
	}
	var ids []int
	for _, k := range r.Perm(1<<14 - 2)[:many] {
		ids = append(ids, k+2)
	}
	return ids
}

// row is so many numbers, one behind the other.
func row(from, many int) []int {
	var l []int
	for k := range many {
		l = append(l, from+k)
	}
	return l
}
