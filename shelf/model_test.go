package shelf_test

import (
	"bytes"
	"encoding/binary"
	"hash/crc32"
	"math/rand/v2"
	"slices"
	"testing"

	"regauge/api"
	"regauge/run"
	"regauge/shelf"
)

// What the chapters tell of pages: how wide a page's number is, how long a head, and how many numbers a chain's page has.
func widthOf(g int) int { return map[int]int{api.G1: 4, api.G2: 8, api.G3: 8}[g] }

func headOf(g int) int { return map[int]int{api.G1: 8, api.G2: 16, api.G3: 16}[g] }

func roomOf(g int) int { return map[int]int{api.G1: 61, api.G2: 29}[g] }

// What a page is, as far as a state tells.
const (
	used byte = iota
	free
	held
)

// stateFrom is the state of pages from one on, told one by one.
func stateFrom(from int, marks ...byte) shelf.State {
	return shelf.State{Free: runsFrom(from, free, marks), Held: runsFrom(from, held, marks)}
}

func runsFrom(from int, mark byte, marks []byte) []run.Run {
	var l []run.Run
	for k, x := range marks {
		switch {
		case x != mark:
		case k > 0 && marks[k-1] == mark:
			l[len(l)-1].Len++
		default:
			l = append(l, run.Run{At: from + k, Len: 1})
		}
	}
	return l
}

// marksOf is what each page of a file is in a state; false, if one is told twice, or can't be told, or if two runs are to be one.
func marksOf(s shelf.State) ([]byte, bool) {
	marks := make([]byte, 1<<14)
	for k, l := range [][]run.Run{s.Free, s.Held} {
		for j, r := range l {
			if r.At < 2 || r.At >= 1<<14 || r.Len < 1 || r.Len > 1<<14 || r.At+r.Len > 1<<14 {
				return nil, false
			}
			if j > 0 && r.At <= l[j-1].At+l[j-1].Len {
				return nil, false
			}
			for page := r.At; page < r.At+r.Len; page++ {
				if marks[page] != used {
					return nil, false
				}
				marks[page] = byte(k + 1)
			}
		}
	}
	return marks, true
}

func plainRight(s shelf.State) bool {
	_, is := marksOf(s)
	return is
}

// row is so many numbers, one behind the other.
func row(from, many int) []int {
	var l []int
	for k := range many {
		l = append(l, from+k)
	}
	return l
}

func number(n, width int) []byte {
	return binary.LittleEndian.AppendUint64(nil, uint64(n))[:width]
}

// reseal puts the sum of all others into bytes 4 to 7, by the library's own reckoning.
func reseal(b []byte) []byte {
	b = bytes.Clone(b)
	t := crc32.MakeTable(crc32.Castagnoli)
	binary.LittleEndian.PutUint32(b[4:], crc32.Update(crc32.Checksum(b[:4], t), t, b[8:]))
	return b
}

// pageOf is a page of Kind Free, sealed where its generation asks for it.
func pageOf(g, count, next int, body []byte) []byte {
	b := append([]byte{'F', byte(g)}, number(count, 2)...)
	if g != api.G1 {
		b = append(b, 0, 0, 0, 0)
	}
	b = append(append(b, number(next, widthOf(g))...), body...)
	b = append(b, make([]byte, 256-len(b))...)
	if g == api.G1 {
		return b
	}
	return reseal(b)
}

// link is a page of a chain.
func link(g, next, holds int, pages ...int) []byte {
	b := number(holds, 4)
	for _, p := range pages {
		b = append(b, number(p, widthOf(g))...)
	}
	return pageOf(g, len(pages), next, b)
}

// leaf is a page of a tree that has runs: three numbers of each.
func leaf(l ...[3]int) []byte {
	var b []byte
	for _, x := range l {
		b = append(b, number(x[0], 8)...)
		b = append(b, number(x[1], 4)...)
		b = append(b, byte(x[2]))
	}
	return pageOf(api.G3, len(l), 0, b)
}

// branch is a page of a tree above the leaves: two numbers of each kid.
func branch(level int, l ...[2]int) []byte {
	var b []byte
	for _, x := range l {
		b = append(b, number(x[0], 8)...)
		b = append(b, number(x[1], 8)...)
	}
	return pageOf(api.G3, len(l), level, b)
}

// plainEncode is the pages of a state that may be, as many as it has.
func plainEncode(g int, s shelf.State, ids []int) [][]byte {
	marks, _ := marksOf(s)
	if g == api.G3 {
		return plainTree(marks, ids)
	}
	return plainChain(g, marks, ids)
}

func plainChain(g int, marks []byte, ids []int) [][]byte {
	var numbers []int
	frees := 0
	for _, mark := range []byte{free, held} {
		for page, x := range marks {
			if x == mark {
				numbers = append(numbers, page)
			}
		}
		if mark == free {
			frees = len(numbers)
		}
	}
	var l [][]byte
	for from := 0; from < len(numbers); from += roomOf(g) {
		to := min(from+roomOf(g), len(numbers))
		next := 0
		if to < len(numbers) {
			next = ids[len(l)+1]
		}
		l = append(l, link(g, next, to-max(from, min(to, frees)), numbers[from:to]...))
	}
	return l
}

// triples is the runs of both kinds, rising, as leaves have them.
func triples(marks []byte) [][3]int {
	var l [][3]int
	for page, x := range marks {
		switch {
		case x == used:
		case marks[page-1] == x:
			l[len(l)-1][1]++
		default:
			l = append(l, [3]int{page, 1, int(x - 1)})
		}
	}
	return l
}

func plainTree(marks []byte, ids []int) [][]byte {
	var l [][]byte
	var below [][2]int
	for rest := triples(marks); len(rest) > 0; {
		n := min(18, len(rest))
		below = append(below, [2]int{rest[0][0], ids[len(l)]})
		l = append(l, leaf(rest[:n]...))
		rest = rest[n:]
	}
	for level := 1; len(below) > 1; level++ {
		var above [][2]int
		for len(below) > 0 {
			n := min(15, len(below))
			above = append(above, [2]int{below[0][0], ids[len(l)]})
			l = append(l, branch(level, below[:n]...))
			below = below[n:]
		}
		below = above
	}
	return l
}

// plainNeed counts pages.
func plainNeed(g int, s shelf.State) int {
	if g < api.G1 || g > api.G3 || !plainRight(s) {
		return 0
	}
	return len(plainEncode(g, s, row(2, 2000)))
}

// plainFirst is where a list of a generation begins.
func plainFirst(g int, ids []int) int {
	if g == api.G3 {
		return ids[len(ids)-1]
	}
	return ids[0]
}

// file is pages, by their numbers, and how often each one was asked for.
type file struct {
	pages map[int][]byte
	asked map[int]int
}

// fileOf has these pages, and no others.
func fileOf(l [][]byte, ids []int) *file {
	f := &file{pages: map[int][]byte{}, asked: map[int]int{}}
	for k, id := range ids {
		f.pages[id] = bytes.Clone(l[k])
	}
	return f
}

// listFile is the file of a state's list.
func listFile(g int, s shelf.State, ids []int) *file {
	return fileOf(plainEncode(g, s, ids), ids)
}

func (f *file) read(id int) ([]byte, api.Errno) {
	f.asked[id]++
	b, is := f.pages[id]
	if !is {
		return nil, api.ErrRange
	}
	return b, api.OK
}

func (f *file) copy() *file {
	c := fileOf(nil, nil)
	for id, b := range f.pages {
		c.pages[id] = bytes.Clone(b)
	}
	return c
}

func (f *file) same(o *file) bool {
	for id, b := range f.pages {
		if !bytes.Equal(b, o.pages[id]) {
			return false
		}
	}
	return len(f.pages) == len(o.pages)
}

// most is how often the page was asked for that was asked for most.
func (f *file) most() int {
	n := 0
	for _, times := range f.asked {
		n = max(n, times)
	}
	return n
}

// walk is a strict reading of a list: it asks of each byte whether it may be there.
type walk struct {
	f     *file
	met   map[int]bool
	marks []byte
	bad   bool
	rows  [][]int // the pages of each level
	end   int     // of the run ahead
	last  byte    // its mark
}

func (w *walk) check(is bool) bool {
	w.bad = w.bad || !is
	return !w.bad
}

// page is a page that may be one of the list's.
func (w *walk) page(g, id int) []byte {
	b, is := w.f.pages[id]
	if !w.check(is && id >= 2 && id < 1<<14 && !w.met[id] && len(b) == 256 && b[0] == 'F' && int(b[1]) == g) {
		return nil
	}
	w.met[id] = true
	if !w.check(g == api.G1 || bytes.Equal(b, reseal(b))) {
		return nil
	}
	return b
}

// numberOf is a number of so many bytes; one that is none of a page's numbers, if it is greater.
func numberOf(b []byte) int {
	n := 0
	for k, x := range b {
		if k >= 4 && x != 0 {
			return 1 << 40
		}
		n |= int(x) << (8 * (k % 4))
	}
	return n
}

func (w *walk) tell(page int, mark byte) {
	if w.check(page >= 2 && page < 1<<14 && w.marks[page] == used) {
		w.marks[page] = mark
	}
}

func (w *walk) chain(g, id int) []int {
	var ids []int
	ahead, mark := 0, free
	for {
		b := w.page(g, id)
		if w.bad {
			return nil
		}
		ids = append(ids, id)
		head := headOf(g)
		count, next, holds := numberOf(b[2:4]), numberOf(b[head-widthOf(g):head]), numberOf(b[head:head+4])
		if !w.check(count >= 1 && count <= roomOf(g) && holds <= count && (next == 0 || count == roomOf(g))) {
			return nil
		}
		rest := b[head+4:]
		for k := range count {
			page := numberOf(rest[:widthOf(g)])
			rest = rest[widthOf(g):]
			if k >= count-holds && mark == free {
				ahead, mark = 0, held
			}
			w.check(page > ahead && (k >= count-holds || mark == free))
			w.tell(page, mark)
			ahead = page
		}
		w.check(isZero(rest))
		if w.bad || next == 0 {
			return ids
		}
		id = next
	}
}

// tree is the first page of what is under a page; each page is to be full, but for the last one of its level.
func (w *walk) tree(id, level int, last bool) int {
	b := w.page(api.G3, id)
	if w.bad || !w.check(level < 5) {
		return 0
	}
	for len(w.rows) <= level {
		w.rows = append(w.rows, nil)
	}
	w.rows[level] = append(w.rows[level], id)
	count, room, width := numberOf(b[2:4]), 18, 13
	if level > 0 {
		room, width = 15, 16
	}
	if !w.check(numberOf(b[8:16]) == level && count >= 1 && count <= room && (last || count == room) && isZero(b[16+count*width:])) {
		return 0
	}
	first := 0
	for k := range count {
		x := b[16+k*width:][:width]
		at := numberOf(x[:8])
		if k == 0 {
			first = at
		}
		if level == 0 {
			w.run(at, numberOf(x[8:12]), x[12])
		} else {
			w.check(w.tree(numberOf(x[8:16]), level-1, last && k == count-1) == at)
		}
		if w.bad {
			return 0
		}
	}
	return first
}

func (w *walk) run(at, long int, mark byte) {
	if !w.check(mark <= 1 && long >= 1 && at < 1<<14 && long < 1<<14 && at+long <= 1<<14 && at >= w.end && (at > w.end || mark+1 != w.last)) {
		return
	}
	for page := range long {
		w.tell(at+page, mark+1)
	}
	w.end, w.last = at+long, mark+1
}

func isZero(b []byte) bool {
	return len(bytes.Trim(b, "\x00")) == 0
}

// plainDecode is the state and the pages of a list; false, if it is none. (The first page is there.)
func plainDecode(f *file, id int) (int, shelf.State, []int, bool) {
	b := f.pages[id]
	if len(b) != 256 || b[1] < 1 || b[1] > 3 {
		return 0, shelf.State{}, nil, false
	}
	g := int(b[1])
	w := &walk{f: f, met: map[int]bool{}, marks: make([]byte, 1<<14)}
	var ids []int
	if g == api.G3 {
		level := numberOf(b[8:16])
		w.tree(id, level, true)
		ids = slices.Concat(w.rows...)
		w.check(level == 0 || numberOf(b[2:4]) > 1)
	} else {
		ids = w.chain(g, id)
	}
	if w.bad {
		return 0, shelf.State{}, nil, false
	}
	return g, stateFrom(0, w.marks...), ids, true
}

// equal holds two states against each other without a call of the layer.
func equal(a, b shelf.State) bool {
	return slices.Equal(a.Free, b.Free) && slices.Equal(a.Held, b.Held)
}

func copyOf(s shelf.State) shelf.State {
	return shelf.State{Free: slices.Clone(s.Free), Held: slices.Clone(s.Held)}
}

// strays is the pages that were asked for, but for the first one, and can't be a list's.
func (f *file) strays(first int) []int {
	var l []int
	for id := range f.asked {
		if id != first && (id < 2 || id >= 1<<14) {
			l = append(l, id)
		}
	}
	return l
}

// decodes holds Decode against the strict reading, and tells whether there was a list. It wants what is read to stay as it is, no page to be read more than three times, or that can't be a page, and, of a list, none but its own.
func decodes(t *testing.T, f *file, id int) bool {
	t.Helper()
	was := f.copy()
	clear(f.asked)
	g, s, ids, e := shelf.Decode(f.read, id)
	wantG, wantS, wantIds, is := plainDecode(was, id)
	want := api.OK
	if !is {
		want = api.ErrShelfForm
	}
	if g != wantG || !equal(s, wantS) || !slices.Equal(ids, wantIds) || e != want {
		t.Fatalf("page %d of %x: %d, %v, %v, %d; want %d, %v, %v, %d", id, was.pages, g, s, ids, e, wantG, wantS, wantIds, want)
	}
	if !f.same(was) {
		t.Fatalf("page %d of %x: what was read is changed", id, was.pages)
	}
	if f.most() > 3 || len(f.strays(id)) > 0 || is && len(f.asked) != len(ids) {
		t.Fatalf("page %d of %x: asked for %v", id, was.pages, f.asked)
	}
	if !is {
		return false
	}
	again, e := shelf.Encode(g, s, ids)
	for k, id := range ids {
		if e != api.OK || !bytes.Equal(again[k], was.pages[id]) {
			t.Fatalf("page %d of %x: other pages are decoded as the same", id, was.pages)
		}
	}
	return true
}

// dice tell the same each time.
func dice(seed uint64) *rand.Rand {
	return rand.New(rand.NewPCG(seed, 10))
}

// someMarks is so many pages, of which most are like the one ahead, or few.
func someMarks(r *rand.Rand, n int) []byte {
	marks := make([]byte, n)
	turn := 1 + r.IntN(6)
	for k := range marks {
		if k == 0 || r.IntN(turn) == 0 {
			marks[k] = byte(r.IntN(3))
		} else {
			marks[k] = marks[k-1]
		}
	}
	return marks
}

// someState is one that may be.
func someState(r *rand.Rand) shelf.State {
	n := []int{1, 10, 60, 300, 1500}[r.IntN(5)]
	n = 1 + r.IntN(n)
	from := 2 + r.IntN(1<<14-1-n)
	if r.IntN(4) == 0 {
		from = []int{2, 1<<14 - n}[r.IntN(2)]
	}
	return stateFrom(from, someMarks(r, n)...)
}

// someIds are so many pages, in any order.
func someIds(r *rand.Rand, many int) []int {
	var ids []int
	for _, k := range r.Perm(1<<14 - 2)[:many] {
		ids = append(ids, k+2)
	}
	return ids
}
