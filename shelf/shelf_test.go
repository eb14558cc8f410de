package shelf_test

import (
	"bytes"
	"math"
	"slices"
	"testing"

	"regauge/api"
	"regauge/crc"
	"regauge/run"
	"regauge/shelf"
)

var allGens = []int{api.G1, api.G2, api.G3}

// noGens are numbers that are of no generation.
var noGens = []int{0, -1, -2, 4, 5, 255, 256 + 1, 1 << 32, 1<<32 + 1, math.MinInt, math.MaxInt}

// of is runs: two numbers of each.
func of(l ...int) []run.Run {
	var runs []run.Run
	for k := 0; k < len(l); k += 2 {
		runs = append(runs, run.Run{At: l[k], Len: l[k+1]})
	}
	return runs
}

// repeat is marks, gone through again and again.
func repeat(n int, marks ...byte) []byte {
	var l []byte
	for k := range n {
		l = append(l, marks[k%len(marks)])
	}
	return l
}

// counts are numbers of pages, or of runs, at the edges of a page and of a level, in each generation.
var counts = []int{1, 2, 17, 18, 19, 28, 29, 30, 36, 37, 57, 58, 59, 60, 61, 62, 121, 122, 123, 269, 270, 271, 288, 289, 540, 541, 4049, 4050, 4051, 4320, 4321, 8191, 16381, 16382}

// states are states that may be, at edges of all kinds.
func states() []shelf.State {
	l := []shelf.State{
		{Free: of(2, 1)}, {Held: of(2, 1)}, {Free: of(1<<14-1, 1)}, {Held: of(1<<14-1, 1)},
		{Free: of(2, 1<<14-2)}, {Held: of(2, 1<<14-2)},
		{Free: of(2, 1), Held: of(3, 1<<14-3)}, {Free: of(3, 1<<14-3), Held: of(2, 1)},
		{Free: of(5, 2, 9, 1), Held: of(7, 2)}, {Free: of(5, 2), Held: of(9, 1)},
		{Free: of(255, 3), Held: of(300, 1, 511, 2)},
	}
	for _, n := range counts {
		l = append(l, stateFrom(2, repeat(n, free, held)...), stateFrom(1<<14-n, repeat(n, held, free)...))
		if n > 1<<13-2 { // no place for all of them with a page between
			continue
		}
		for _, mark := range []byte{free, held} {
			l = append(l, stateFrom(2, repeat(n, mark)...), stateFrom(3, repeat(2*n, used, mark)...))
		}
		for _, few := range []int{1, n / 2, n - 1, 28, 29, 30, 60, 61, 62} {
			if few < n {
				marks := repeat(n, free)
				copy(marks[few:], repeat(n-few, held))
				l = append(l, stateFrom(40, marks...), stateFrom(40, slices.Concat(marks[few:], []byte{used}, marks[:few])...))
			}
		}
	}
	return l
}

// wrong are states that may not be.
func wrong() []shelf.State {
	var l []shelf.State
	for _, runs := range [][]run.Run{
		of(1, 1), of(0, 1), of(-1, 1), of(-1, 4), of(1, 2), of(0, 5), of(math.MinInt, 3), of(1<<14, 1), of(1<<14-1, 2), of(2, 1<<14-1), of(1<<14+5, 1), of(1<<15-1, 1), of(1<<15, 1), of(math.MaxInt, 1),
		of(5, 0), of(5, -1), of(5, math.MaxInt), of(5, math.MinInt), of(2, 1<<15),
		of(5, 1, 6, 1), of(5, 2, 6, 2), of(5, 1, 5, 1), of(6, 1, 5, 1), of(9, 1, 5, 1), of(5, 1, 7, 0), of(5, 0, 7, 1), of(5, 1, 7, 1<<14-6), of(1, 1, 5, 1), of(5, 1, 1<<14, 1),
	} {
		l = append(l, shelf.State{Free: runs}, shelf.State{Held: runs}, shelf.State{Free: runs, Held: of(900, 1)}, shelf.State{Free: of(900, 1), Held: runs})
	}
	for _, runs := range [][]run.Run{of(10, 4), of(11, 1), of(8, 3), of(13, 9), of(9, 6), of(2, 1<<14-2), of(3, 1, 12, 1)} {
		l = append(l, shelf.State{Free: of(10, 4), Held: runs}, shelf.State{Free: runs, Held: of(10, 4)})
	}
	return l
}

func TestP101Right(t *testing.T) {
	for _, s := range append(states(), shelf.State{}, shelf.State{Free: []run.Run{}, Held: []run.Run{}}) {
		if !shelf.Right(s) || !plainRight(s) {
			t.Errorf("%v is not right", s)
		}
	}
	for _, s := range wrong() {
		if shelf.Right(s) || plainRight(s) {
			t.Errorf("%v is right", s)
		}
	}
}

// All pairs of rows of a few runs.
func TestP101RightPairs(t *testing.T) {
	var rows [][]run.Run
	for a := range 6 {
		for long := range 4 {
			rows = append(rows, of(a, long))
			for b := range 8 {
				rows = append(rows, of(a, long, b, 1+b%2), of(1<<14-a, long, 1<<14-b, 1+b%2))
			}
		}
	}
	right := 0
	for _, a := range rows {
		for _, b := range rows {
			s := shelf.State{Free: a, Held: b}
			if shelf.Right(s) != plainRight(s) {
				t.Fatalf("Right(%v) is %v", s, shelf.Right(s))
			}
			if shelf.Right(s) {
				right++
			}
		}
	}
	if right < 100 {
		t.Error("hardly any of them is right:", right)
	}
}

func TestP101Same(t *testing.T) {
	l := append(wrong(), states()[:40]...)
	l = append(l, shelf.State{})
	for i, a := range l {
		if !shelf.Same(a, copyOf(a)) || !shelf.Same(copyOf(a), a) {
			t.Errorf("%v is not the same as itself", a)
		}
		for _, b := range l[:i] {
			if want := equal(a, b); shelf.Same(a, b) != want || shelf.Same(b, a) != want {
				t.Errorf("Same(%v, %v) is not %v", a, b, want)
			}
		}
		for _, runs := range []*[]run.Run{&a.Free, &a.Held} {
			kept := *runs
			for k := range kept {
				*runs = slices.Clone(kept)
				(*runs)[k].At++
				differ(t, l[i], a)
				(*runs)[k].At--
				(*runs)[k].Len++
				differ(t, l[i], a)
				*runs = kept[:k]
				differ(t, l[i], a)
				*runs = slices.Delete(slices.Clone(kept), k, k+1)
				differ(t, l[i], a)
			}
			*runs = append(slices.Clone(kept), run.Run{})
			differ(t, l[i], a)
			*runs = kept
		}
	}
	if !shelf.Same(shelf.State{}, shelf.State{Free: []run.Run{}, Held: []run.Run{}}) {
		t.Error("empty runs are other ones than none")
	}
	if shelf.Same(shelf.State{Free: of(5, 1)}, shelf.State{Held: of(5, 1)}) {
		t.Error("what is free is as good as what is held")
	}
}

func differ(t *testing.T, a, b shelf.State) {
	t.Helper()
	if shelf.Same(a, b) || shelf.Same(b, a) {
		t.Errorf("%v is the same as %v", a, b)
	}
}

func TestP101Example(t *testing.T) {
	if n := shelf.Need(api.G1, shelf.State{Free: of(9, 62)}); n != 2 {
		t.Error("62 pages:", n)
	}
	if n := shelf.Need(api.G3, stateFrom(2, repeat(19, free, held)...)); n != 3 {
		t.Error("19 runs:", n)
	}
}

func TestP101Need(t *testing.T) {
	for _, x := range []struct {
		n    int
		need [3]int
	}{
		{1, [3]int{1, 1, 1}}, {18, [3]int{1, 1, 1}}, {19, [3]int{1, 1, 3}}, {29, [3]int{1, 1, 3}}, {30, [3]int{1, 2, 3}}, {61, [3]int{1, 3, 5}}, {62, [3]int{2, 3, 5}},
		{270, [3]int{5, 10, 16}}, {271, [3]int{5, 10, 19}}, {4050, [3]int{67, 140, 241}}, {4051, [3]int{67, 140, 226 + 16 + 2 + 1}}, {16382, [3]int{269, 565, 911 + 61 + 5 + 1}},
	} {
		s := stateFrom(2, repeat(x.n, held, free)...)
		if need := [3]int{shelf.Need(1, s), shelf.Need(2, s), shelf.Need(3, s)}; need != x.need {
			t.Errorf("%d pages, and runs: %v", x.n, need)
		}
	}
	for _, s := range states() {
		for _, g := range allGens {
			if n := shelf.Need(g, s); n != plainNeed(g, s) {
				t.Errorf("Need(%d, %v) is %d", g, s, n)
			}
		}
		for _, g := range noGens {
			if n := shelf.Need(g, s); n != 0 {
				t.Errorf("Need(%d, %v) is %d", g, s, n)
			}
		}
	}
	for _, s := range append(wrong(), shelf.State{}) {
		for _, g := range append(noGens, allGens...) {
			if n := shelf.Need(g, s); n != 0 {
				t.Errorf("Need(%d, %v) is %d", g, s, n)
			}
		}
	}
}

// Each number of pages, and of runs, up to several levels.
func TestP101NeedRises(t *testing.T) {
	marks := repeat(600, free, held, used, held, used, held, used, used, free, free)
	for n := range marks {
		s := stateFrom(77, marks[:n]...)
		for _, g := range allGens {
			if need := shelf.Need(g, s); need != plainNeed(g, s) {
				t.Errorf("Need(%d, %v) is %d", g, s, need)
			}
		}
	}
}

func TestP101First(t *testing.T) {
	for _, ids := range [][]int{{4}, {4, 7}, {7, 4}, {9, 8, 2}, {0, -5, 3, 3}, row(100, 50)} {
		was := slices.Clone(ids)
		for _, g := range append(noGens, allGens...) {
			want := ids[len(ids)-1]
			if g == api.G1 || g == api.G2 {
				want = ids[0]
			}
			if n := shelf.First(g, ids); n != want || !slices.Equal(ids, was) {
				t.Errorf("First(%d, %v) is %d", g, was, n)
			}
		}
	}
	for _, g := range append(noGens, allGens...) {
		if shelf.First(g, nil) != 0 || shelf.First(g, []int{}) != 0 {
			t.Error("of no pages there is a first one:", g)
		}
	}
}

// The bytes are written out where they stand.
func TestP102Bytes(t *testing.T) {
	s := shelf.State{Free: of(5, 2, 258, 1), Held: of(7, 1, 16383, 1)}
	for g, want := range map[int][]byte{
		1: {'F', 1, 5, 0, 0, 0, 0, 0, 2, 0, 0, 0, 5, 0, 0, 0, 6, 0, 0, 0, 2, 1, 0, 0, 7, 0, 0, 0, 255, 63},
		2: {'F', 2, 5, 0, 0, 0, 0, 0, 0, 0, 0, 0, 0, 0, 0, 0, 2, 0, 0, 0, 5, 0, 0, 0, 0, 0, 0, 0, 6, 0, 0, 0, 0, 0, 0, 0, 2, 1, 0, 0, 0, 0, 0, 0, 7, 0, 0, 0, 0, 0, 0, 0, 255, 63},
		3: {'F', 3, 4, 0, 0, 0, 0, 0, 0, 0, 0, 0, 0, 0, 0, 0, 5, 0, 0, 0, 0, 0, 0, 0, 2, 0, 0, 0, 0, 7, 0, 0, 0, 0, 0, 0, 0, 1, 0, 0, 0, 1, 2, 1, 0, 0, 0, 0, 0, 0, 1, 0, 0, 0, 0, 255, 63, 0, 0, 0, 0, 0, 0, 1, 0, 0, 0, 1},
	} {
		want = append(want, make([]byte, 256-len(want))...)
		if g != api.G1 {
			want = reseal(want)
		}
		l, e := shelf.Encode(g, s, []int{9})
		if e != api.OK || len(l) != 1 || !bytes.Equal(l[0], want) {
			t.Errorf("G%d: %x, %d, want %x", g, l, e, want)
		}
	}
}

// Of two pages of a chain, and of a tree of two levels, each page is told.
func TestP102Pages(t *testing.T) {
	s := shelf.State{Free: of(5, 25), Held: of(100, 7)}
	l, e := shelf.Encode(api.G2, s, []int{700, 3})
	want := [][]byte{link(api.G2, 3, 4, append(row(5, 25), row(100, 4)...)...), link(api.G2, 0, 3, row(104, 3)...)}
	if e != api.OK || !slices.EqualFunc(l, want, bytes.Equal) {
		t.Errorf("%x, %d, want %x", l, e, want)
	}
	s = stateFrom(50, repeat(20, free, held)...)
	var runs [][3]int
	for k := range 20 {
		runs = append(runs, [3]int{50 + k, 1, k % 2})
	}
	l, e = shelf.Encode(api.G3, s, []int{700, 3, 20})
	want = [][]byte{leaf(runs[:18]...), leaf(runs[18:]...), branch(1, [2]int{50, 700}, [2]int{68, 3})}
	if e != api.OK || !slices.EqualFunc(l, want, bytes.Equal) {
		t.Errorf("%x, %d, want %x", l, e, want)
	}
}

// someRows are pages' numbers, so many, in several orders.
func someRows(many int) [][]int {
	if many > 100 {
		return [][]int{someIds(dice(uint64(many)), many)}
	}
	back := row(3, many)
	slices.Reverse(back)
	return [][]int{row(2, many), row(1<<14-many, many), back, someIds(dice(uint64(many)), many)}
}

func TestP102Encode(t *testing.T) {
	for _, s := range states() {
		for _, g := range allGens {
			for _, ids := range someRows(plainNeed(g, s)) {
				was, wasIds := copyOf(s), slices.Clone(ids)
				l, e := shelf.Encode(g, s, ids)
				if want := plainEncode(g, was, wasIds); e != api.OK || !slices.EqualFunc(l, want, bytes.Equal) {
					t.Fatalf("G%d, %v, pages %v: %x, %d, want %x", g, s, ids, l, e, want)
				}
				if !equal(s, was) || !slices.Equal(ids, wasIds) {
					t.Fatalf("G%d, %v, pages %v: what was given is changed", g, was, wasIds)
				}
				for _, b := range l {
					if len(b) != 256 || g != api.G1 && !crc.Sealed(b, 4) {
						t.Fatalf("G%d, %v, pages %v: %x", g, s, ids, b)
					}
				}
			}
		}
	}
}

// A list may stand on pages that it tells itself.
func TestP102OwnPages(t *testing.T) {
	s := shelf.State{Free: of(5, 40), Held: of(100, 40)}
	for _, g := range allGens {
		ids := append(row(5, 40), row(100, 40)...)[:plainNeed(g, s)]
		if l, e := shelf.Encode(g, s, ids); e != api.OK || !slices.EqualFunc(l, plainEncode(g, s, ids), bytes.Equal) {
			t.Errorf("G%d: %d", g, e)
		}
	}
}

func refused(t *testing.T, g int, s shelf.State, ids []int) {
	t.Helper()
	if l, e := shelf.Encode(g, s, ids); len(l) != 0 || e != api.ErrArg {
		t.Errorf("G%d, %v, pages %v: %d pages, %d", g, s, ids, len(l), e)
	}
}

func TestP102Refuses(t *testing.T) {
	for _, s := range wrong() {
		for _, g := range allGens {
			for many := range 5 {
				refused(t, g, s, row(20, many))
			}
		}
	}
	for _, s := range []shelf.State{{}, {Free: of(5, 1)}, {Held: of(5, 70)}} {
		for _, g := range noGens {
			for many := range 5 {
				refused(t, g, s, row(20, many))
			}
		}
	}
	for _, s := range states() {
		for _, g := range allGens {
			many := plainNeed(g, s)
			refused(t, g, s, nil)
			refused(t, g, s, row(5, many-1))
			refused(t, g, s, row(5, many+1))
			refused(t, g, s, row(5, many+20))
		}
	}
	for _, s := range []shelf.State{{Free: of(5, 3)}, {Free: of(50, 62)}, stateFrom(60, repeat(61, held, free)...)} {
		for _, g := range allGens {
			refusedIds(t, g, s, plainNeed(g, s))
		}
	}
}

func refusedIds(t *testing.T, g int, s shelf.State, many int) {
	t.Helper()
	for k := range many {
		for _, id := range []int{-1, 0, 1, 1 << 14, 1<<14 + 1, 1<<15 - 1, 1 << 15, 1 << 16, 1<<32 + 5 + k, math.MinInt, math.MaxInt} {
			l := row(5, many)
			l[k] = id
			refused(t, g, s, l)
		}
		for other := range k {
			l := row(5, many)
			l[k] = l[other]
			refused(t, g, s, l)
		}
	}
	refused(t, g, s, row(1, many))
	refused(t, g, s, row(-many, many))
	refused(t, g, s, row(1<<14-many+1, many))
	refused(t, g, s, row(math.MaxInt-many+1, many))
}

func TestP102Nothing(t *testing.T) {
	for _, s := range []shelf.State{{}, {Free: []run.Run{}, Held: []run.Run{}}} {
		for _, g := range allGens {
			for _, ids := range [][]int{nil, {}} {
				if l, e := shelf.Encode(g, s, ids); len(l) != 0 || e != api.OK {
					t.Errorf("G%d: %d pages, %d", g, len(l), e)
				}
			}
			for many := 1; many < 4; many++ {
				refused(t, g, s, row(5, many))
			}
		}
	}
}

// Pages change neither with what they were made of, nor with each other.
func TestP102SharesNothing(t *testing.T) {
	for _, g := range allGens {
		for _, n := range []int{5, 100, 300} {
			s := stateFrom(60, repeat(n, held, free)...)
			many := plainNeed(g, s)
			room := row(9, many+9)
			ids := room[:many]
			want := plainEncode(g, s, ids)
			l, _ := shelf.Encode(g, s, ids)
			if !slices.Equal(room, row(9, many+9)) {
				t.Fatalf("G%d, %d pages: what stands behind ids is written over", g, n)
			}
			clear(s.Free)
			clear(s.Held)
			clear(ids)
			for k := range l {
				if !bytes.Equal(l[k], want[k]) {
					t.Fatalf("G%d, %d pages: page %d is %x, want %x", g, n, k, l[k], want[k])
				}
				_ = append(l[k], 1, 2, 3)
				clear(l[k])
			}
		}
	}
}

func TestP103Decode(t *testing.T) {
	for _, s := range states() {
		for _, g := range allGens {
			for _, ids := range someRows(plainNeed(g, s)) {
				f := listFile(g, s, ids)
				got, back, pages, e := shelf.Decode(f.read, plainFirst(g, ids))
				if got != g || !equal(back, s) || !slices.Equal(pages, ids) || e != api.OK {
					t.Fatalf("G%d, %v, pages %v: %d, %v, %v, %d", g, s, ids, got, back, pages, e)
				}
				if f.most() > 3 {
					t.Fatalf("G%d, %v, pages %v: asked for %v", g, s, ids, f.asked)
				}
			}
		}
	}
}

// Of a list's other pages none is the first one, but where what is from it on is a list too.
func TestP103Within(t *testing.T) {
	lists := 0
	for _, n := range []int{1, 18, 19, 62, 100, 300} {
		s := stateFrom(60, repeat(n, held, free, free, used)...)
		for _, g := range allGens {
			for _, ids := range someRows(plainNeed(g, s)) {
				f := listFile(g, s, ids)
				for _, id := range ids {
					if decodes(t, f, id) && id != plainFirst(g, ids) {
						lists++
					}
				}
			}
		}
	}
	if lists == 0 {
		t.Error("no list is in another one")
	}
}

func TestP103Nil(t *testing.T) {
	for _, id := range []int{0, 1, 2, -1, math.MinInt, math.MaxInt} {
		refuses(t, nil, id, api.ErrArg)
	}
}

// Page 0 is no list, and is not asked for.
func TestP103Nothing(t *testing.T) {
	for _, read := range []shelf.Read{
		func(int) ([]byte, api.Errno) { return nil, api.ErrDown },
		func(int) ([]byte, api.Errno) { return leaf([3]int{5, 1, 0}), api.OK },
		func(int) ([]byte, api.Errno) { panic("asked") },
	} {
		asked := 0
		refuses(t, func(id int) ([]byte, api.Errno) {
			asked++
			return read(id)
		}, 0, api.OK)
		if asked > 0 {
			t.Error("page 0 is asked for")
		}
	}
}

// refuses asks for a list, and wants nothing but an error.
func refuses(t *testing.T, read shelf.Read, id int, want api.Errno) {
	t.Helper()
	if g, s, ids, e := shelf.Decode(read, id); g != 0 || !equal(s, shelf.State{}) || len(ids) != 0 || e != want {
		t.Errorf("page %d: %d, %v, %v, %d, want %d", id, g, s, ids, e, want)
	}
}

// lists are files of lists of several pages, of each generation, and their pages.
func lists(then func(g int, f *file, ids []int)) {
	for _, n := range []int{3, 40, 100, 300} {
		s := stateFrom(60, repeat(n, held, free, free, used)...)
		for _, g := range allGens {
			ids := row(7, plainNeed(g, s))
			then(g, listFile(g, s, ids), ids)
		}
	}
}

// The first page's error is told, whatever it is; a later one's is not.
func TestP103Errors(t *testing.T) {
	for _, no := range []api.Errno{api.ErrDown, api.ErrRange, api.ErrArg, api.ErrTxnCorrupt, api.ErrShelfForm, -5, 1 << 20} {
		lists(func(g int, f *file, ids []int) {
			first := plainFirst(g, ids)
			for _, bad := range ids {
				want := api.ErrShelfForm
				if bad == first {
					want = no
				}
				refuses(t, func(id int) ([]byte, api.Errno) {
					b, e := f.read(id)
					if id == bad {
						return b, no
					}
					return b, e
				}, first, want)
			}
		})
	}
	for _, id := range []int{math.MinInt, -1, 1, 2, 1 << 14, math.MaxInt} {
		refuses(t, fileOf(nil, nil).read, id, api.ErrRange)
	}
}

// Of a page other bytes than a page's are told, or none.
func TestP103Lengths(t *testing.T) {
	lists(func(g int, f *file, ids []int) {
		for _, bad := range ids {
			b := f.pages[bad]
			for _, x := range [][]byte{nil, {}, b[:1], b[:4], b[:16], b[:255], append(bytes.Clone(b), 0), append(bytes.Clone(b), b...)} {
				f.pages[bad] = x
				refuses(t, f.read, plainFirst(g, ids), api.ErrShelfForm)
			}
			f.pages[bad] = b
		}
	})
}

// What read tells that panics is no page's bytes.
func TestP103Panics(t *testing.T) {
	lists(func(g int, f *file, ids []int) {
		for _, bad := range ids {
			refuses(t, func(id int) ([]byte, api.Errno) {
				if id == bad {
					panic("no page")
				}
				return f.read(id)
			}, plainFirst(g, ids), api.ErrShelfForm)
		}
	})
}

// Each byte of each page is another one, as it is, and sealed again.
func TestP103EachByte(t *testing.T) {
	good := 0
	for _, s := range []shelf.State{
		{Free: of(5, 1, 9, 2), Held: of(7, 1)},
		{Free: of(30, 20), Held: of(10, 12, 99, 31)},
		stateFrom(60, repeat(39, held, free, used)...),
	} {
		for _, g := range allGens {
			ids := row(4, plainNeed(g, s))
			f := listFile(g, s, ids)
			first := plainFirst(g, ids)
			for _, id := range ids {
				for at := range 256 {
					for to := range 256 {
						if near := int8(to - int(f.pages[id][at])); at > 20 && to > 3 && to%85 != 0 && (near < -1 || near > 1) { // behind the head all is alike
							continue
						}
						if byteIs(t, g, f, first, id, at, byte(to)) {
							good++
						}
					}
				}
			}
		}
	}
	if good < 1000 {
		t.Error("hardly any of them is a list:", good)
	}
}

func byteIs(t *testing.T, g int, f *file, first, id, at int, to byte) bool {
	t.Helper()
	b := f.pages[id]
	defer func() { f.pages[id] = b }()
	x := bytes.Clone(b)
	x[at] = to
	f.pages[id] = x
	is := decodes(t, f, first)
	if g != api.G1 {
		f.pages[id] = reseal(x)
		is = decodes(t, f, first)
	}
	return is
}

// wrongOnes wants each of these files to be refused, and the first one to be a list.
func wrongOnes(t *testing.T, first int, ids []int, files ...[][]byte) {
	t.Helper()
	for k, l := range files {
		f := fileOf(l, ids)
		if is := decodes(t, f, first); is != (k == 0) {
			t.Errorf("%d: %v", k, is)
		}
	}
}

// Chains that are wrong in one way each: their pages are sealed.
func TestP103Chains(t *testing.T) {
	for _, g := range []int{api.G1, api.G2} {
		room := roomOf(g)
		all := row(20, room+5)
		a, b := all[:room], all[room:]
		last := link(g, 0, 2, b...)
		other := link(3-g, 0, 2, b...)
		leaf := bytes.Clone(last)
		leaf[0] = 'L'
		with := func(l []int, k, to int) []int {
			l = slices.Clone(l)
			l[k] = to
			return l
		}
		long := link(g, 9, 0, a...)
		long[2]++
		wrongOnes(t, 5, []int{5, 9, 11},
			[][]byte{link(g, 9, 0, a...), last, last},
			[][]byte{link(g, 8, 0, a...), last, last},
			[][]byte{link(g, 5, 0, a...), last, last},
			[][]byte{link(g, 1, 0, a...), last, last},
			[][]byte{link(g, 1<<14, 0, a...), last, last},
			[][]byte{link(g, 65536+9, 0, a...), last, last},
			[][]byte{link(g, 1<<24+9, 0, a...), last, last},
			[][]byte{link(g, 1<<31+9, 0, a...), last, last},
			[][]byte{link(g, 9, 1, a...), last, last},
			[][]byte{link(g, 9, room, a...), last, last},
			[][]byte{link(g, 9, room+1, a...), last, last},
			[][]byte{link(g, 9, 1<<31, a...), last, last},
			[][]byte{link(g, 9, 1<<32-1, a...), last, last},
			[][]byte{link(g, 9, 0, a[1:]...), last, last},
			[][]byte{link(g, 9, 0), last, last},
			[][]byte{long, last, last},
			[][]byte{link(g, 9, 0, with(a, 0, 1)...), last, last},
			[][]byte{link(g, 9, 0, with(a, 0, 0)...), last, last},
			[][]byte{link(g, 9, 0, with(a, 1, 20)...), last, last},
			[][]byte{link(g, 9, 0, with(a, 1, 19)...), last, last},
			[][]byte{link(g, 9, 0, with(a, room-1, b[0])...), last, last},
			[][]byte{link(g, 9, 0, with(a, room-1, b[4])...), last, last},
			[][]byte{link(g, 9, 0, with(a, 3, 1<<14)...), last, last},
			[][]byte{link(g, 9, 0, with(a, 3, 1<<32-1)...), last, last},
			[][]byte{link(g, 9, 0, a...), link(g, 9, 2, b...), last},
			[][]byte{link(g, 9, 0, a...), link(g, 5, 2, b...), last},
			[][]byte{link(g, 9, 0, a...), link(g, 11, 2, b...), last},
			[][]byte{link(g, 9, 0, a...), link(g, 8, 2, b...), last},
			[][]byte{link(g, 9, 0, a...), link(g, 0, 6, b...), last},
			[][]byte{link(g, 9, 0, a...), link(g, 0, 1<<32-1, b...), last},
			[][]byte{link(g, 9, 0, a...), link(g, 0, 0), last},
			[][]byte{link(g, 9, 0, a...), link(g, 0, 2, with(b, 4, 1<<14)...), last},
			[][]byte{link(g, 9, 0, a...), link(g, 0, 2, with(b, 4, b[3])...), last},
			[][]byte{link(g, 9, 0, a...), link(g, 0, 2, with(b, 4, a[0])...), last},
			[][]byte{link(g, 9, 0, a...), link(g, 0, 2, with(b, 4, b[0])...), last},
			[][]byte{link(g, 9, 0, a...), other, last},
			[][]byte{link(g, 9, 0, a...), leaf, last},
			[][]byte{link(g, 9, 0, a...), make([]byte, 256), last},
			[][]byte{link(g, 9, 0, a...), pageOf(g, 5, 0, slices.Concat(link(g, 0, 2, b...)[headOf(g):200], []byte{1})), last},
			[][]byte{link(3-g, 9, 0, a[:29]...), last, last},
		)
	}
}

// What is held may begin within a page, at its first number, or behind its last one; what is held may be less than what is free.
func TestP103Borders(t *testing.T) {
	for _, g := range []int{api.G1, api.G2} {
		room := roomOf(g)
		for frees := range 2*room + 2 {
			s := shelf.State{Held: of(20, 2*room+1)}
			if frees > 0 {
				s.Free = of(1000, frees)
			}
			ids := row(5, plainNeed(g, s))
			f := listFile(g, s, ids)
			if !decodes(t, f, 5) {
				t.Fatal("no list:", g, frees)
			}
			for _, id := range ids {
				at := headOf(g)
				for _, by := range []byte{1, 255} {
					f.pages[id][at] += by
					if g == api.G2 {
						f.pages[id] = reseal(f.pages[id])
					}
					decodes(t, f, 5)
					f.pages[id][at] -= by
					if g == api.G2 {
						f.pages[id] = reseal(f.pages[id])
					}
				}
			}
		}
	}
}

// runs is so many runs of one page, from one on, as leaves have them.
func runs(from, n int) [][3]int {
	var l [][3]int
	for k := range n {
		l = append(l, [3]int{from + 2*k, 1, 0})
	}
	return l
}

// Leaves that are wrong in one way each: they are sealed.
func TestP103Leaves(t *testing.T) {
	one := func(l ...[3]int) [][]byte { return [][]byte{leaf(l...)} }
	next := func(n int, l ...[3]int) [][]byte {
		b := leaf(l...)
		copy(b[8:16], number(n, 8))
		return [][]byte{reseal(b)}
	}
	count := func(n int, l ...[3]int) [][]byte {
		b := leaf(l...)
		copy(b[2:4], number(n, 2))
		return [][]byte{reseal(b)}
	}
	wrongOnes(t, 5, []int{5}, one(runs(20, 18)...),
		one(), count(0, runs(20, 1)...), count(1, runs(20, 2)...), count(2, runs(20, 1)...), count(19, runs(20, 18)...), count(65535, runs(20, 18)...),
		next(1, runs(20, 2)...), next(5, runs(20, 2)...), next(1<<62, runs(20, 2)...), next(-1, runs(20, 2)...), next(1<<62), next(math.MaxInt),
		one([3]int{20, 0, 0}), one([3]int{0, 1, 0}), one([3]int{1, 1, 0}), one([3]int{1<<14 - 1, 2, 0}), one([3]int{1 << 14, 1, 0}), one([3]int{1<<15 + 20, 1, 0}),
		one([3]int{20, 1 << 14, 0}), one([3]int{20, 1<<32 - 1, 0}), one([3]int{math.MaxInt, 1, 0}), one([3]int{-1, 1, 0}), one([3]int{1<<32 + 20, 1, 0}),
		one([3]int{20, 1, 2}), one([3]int{20, 1, 255}),
		one([3]int{20, 1, 0}, [3]int{21, 1, 0}), one([3]int{20, 1, 1}, [3]int{21, 1, 1}),
		one([3]int{20, 1, 0}, [3]int{20, 1, 1}), one([3]int{20, 2, 0}, [3]int{21, 1, 1}), one([3]int{20, 9, 1}, [3]int{21, 1, 0}),
		one([3]int{20, 1, 0}, [3]int{19, 1, 1}), one([3]int{20, 1, 0}, [3]int{17, 1, 0}), one([3]int{20, 1, 0}, [3]int{20, 1, 0}),
		[][]byte{pageOf(api.G3, 1, 0, leaf([3]int{20, 1, 0}, [3]int{0, 0, 1})[16:])},
		[][]byte{pageOf(api.G2, 1, 0, leaf([3]int{20, 1, 0})[16:])},
	)
	for _, l := range [][][3]int{{{20, 1, 0}, {21, 1, 1}}, {{2, 1<<14 - 2, 1}}, {{20, 1, 0}, {21, 1, 1}, {22, 1, 0}}} {
		wrongOnes(t, 5, []int{5}, one(l...))
	}
}

// Trees that are wrong in one way each: their pages are sealed.
func TestP103Trees(t *testing.T) {
	a, b := runs(20, 18), runs(100, 3)
	la, lb := leaf(a...), leaf(b...)
	root := func(level int, l ...[2]int) []byte { return branch(level, l...) }
	ka, kb := [2]int{20, 6}, [2]int{100, 7}
	over := bytes.Clone(lb)
	over[0] = 'O'
	count := bytes.Clone(root(1, ka, kb))
	count[2] = 16
	wide := bytes.Clone(root(1, ka, kb))
	wide[2], wide[3] = 2, 1
	spare := bytes.Clone(root(1, ka, kb))
	spare[16+32] = 1
	wrongOnes(t, 5, []int{5, 6, 7, 8},
		[][]byte{root(1, ka, kb), la, lb, lb},
		[][]byte{root(1, ka), la, lb, lb},
		[][]byte{root(1), la, lb, lb},
		[][]byte{root(0, ka, kb), la, lb, lb},
		[][]byte{root(2, ka, kb), la, lb, lb},
		[][]byte{root(3, ka, kb), la, lb, lb},
		[][]byte{root(256+1, ka, kb), la, lb, lb},
		[][]byte{root(1<<62, ka, kb), la, lb, lb},
		[][]byte{root(1 << 62), la, lb, lb},
		[][]byte{root(math.MaxInt), la, lb, lb},
		[][]byte{root(-1, ka, kb), la, lb, lb},
		[][]byte{root(1, kb, ka), la, lb, lb},
		[][]byte{root(1, [2]int{100, 6}, [2]int{20, 7}), lb, la, lb},
		[][]byte{root(1, [2]int{21, 6}, kb), la, lb, lb},
		[][]byte{root(1, [2]int{0, 6}, kb), la, lb, lb},
		[][]byte{root(1, [2]int{-1, 6}, kb), la, lb, lb},
		[][]byte{root(1, ka, [2]int{99, 7}), la, lb, lb},
		[][]byte{root(1, ka, [2]int{1<<40 + 100, 7}), la, lb, lb},
		[][]byte{root(1, ka, [2]int{100, 6}), la, lb, lb},
		[][]byte{root(1, ka, [2]int{100, 5}), la, lb, lb},
		[][]byte{root(1, ka, [2]int{100, 9}), la, lb, lb},
		[][]byte{root(1, ka, [2]int{100, 0}), la, lb, lb},
		[][]byte{root(1, ka, [2]int{100, 1}), la, lb, lb},
		[][]byte{root(1, ka, [2]int{100, 1 << 14}), la, lb, lb},
		[][]byte{root(1, ka, [2]int{100, 1<<32 + 7}), la, lb, lb},
		[][]byte{root(1, ka, [2]int{100, -1}), la, lb, lb},
		[][]byte{root(1, ka, kb, [2]int{100, 8}), la, lb, lb},
		[][]byte{root(1, ka, kb, [2]int{200, 8}), la, lb, leaf(runs(200, 1)...)},
		[][]byte{count, la, lb, lb},
		[][]byte{wide, la, lb, lb},
		[][]byte{reseal(spare), la, lb, lb},
		[][]byte{root(1, ka, kb), leaf(a[:17]...), lb, lb},
		[][]byte{root(1, ka, kb), la, leaf(), lb},
		[][]byte{root(1, ka, kb), leaf(), lb, lb},
		[][]byte{root(1, ka, kb), la, leaf([3]int{100, 1, 2}), lb},
		[][]byte{root(1, ka, kb), la, branch(1, [2]int{100, 8}), lb},
		[][]byte{root(2, ka, kb), branch(1, [2]int{20, 8}), lb, la},
		[][]byte{root(2, ka, kb), branch(1, [2]int{20, 7}, [2]int{100, 8}), la, lb},
		[][]byte{root(2, ka), branch(1, [2]int{20, 7}, [2]int{100, 8}), la, lb},
		[][]byte{root(1, [2]int{20, 6}, [2]int{54, 7}), leaf(append(runs(20, 17), [3]int{60, 1, 0})...), leaf(runs(54, 3)...), lb},
		[][]byte{root(1, [2]int{20, 6}, [2]int{55, 7}), la, leaf([3]int{55, 1, 0}), lb},
		[][]byte{root(1, [2]int{20, 6}, [2]int{54, 7}), la, leaf([3]int{54, 1, 1}), lb},
		[][]byte{root(1, ka, kb), la, over, lb},
		[][]byte{root(1, ka, kb), la, make([]byte, 256), lb},
		[][]byte{root(1, ka, kb), link(api.G2, 0, 0, 20), lb, lb},
		[][]byte{root(1, ka, kb), la, link(api.G1, 0, 0, 100), lb},
		[][]byte{pageOf(api.G2, 2, 1, root(1, ka, kb)[16:]), la, lb, lb},
	)
	f := fileOf([][]byte{root(1, ka, [2]int{55, 7}), la, leaf([3]int{55, 1, 1})}, []int{5, 6, 7})
	if !decodes(t, f, 5) {
		t.Error("a run that is held, behind one that is free, is no list")
	}
}

// A leaf's runs are no kids, even where they read like some: of a run that is free, with nothing behind it, Len stands where a kid's number would.
func TestP103LeavesHaveNoKids(t *testing.T) {
	one := leaf([3]int{100, 7, 0})
	if f := fileOf([][]byte{one, one}, []int{5, 7}); !decodes(t, f, 5) || !decodes(t, f, 7) {
		t.Error("a leaf is no list")
	}
	f := fileOf([][]byte{branch(1, [2]int{20, 6}, [2]int{100, 8}), leaf(runs(20, 18)...), leaf([3]int{100, 7, 0}), one}, []int{5, 6, 8, 7})
	if !decodes(t, f, 5) || !decodes(t, f, 8) {
		t.Error("a tree is no list")
	}
}

// Where it is known that there is no list, no other page is asked for.
func TestP103Asks(t *testing.T) {
	l := []int{5, 6, 7, 8}
	last := link(api.G1, 0, 0, 81)
	root := branch(1, [2]int{20, 6}, [2]int{100, 7})
	kind := func(b []byte) []byte {
		b = bytes.Clone(b)
		b[0] = 'L'
		return reseal(b)
	}
	full := link(api.G1, 6, 0, row(20, 61)...)
	for i, x := range []struct {
		first []byte
		asked []int
	}{
		{kind(full), []int{5}}, {kind(root), []int{5}}, {full[:255], []int{5}}, {append(bytes.Clone(root), 0), []int{5}}, {nil, []int{5}},
		{link(api.G1, 9, 0, row(20, 61)...), []int{5, 9}},
		{branch(1, [2]int{20, 9}, [2]int{100, 7}), []int{5, 9}},
		{branch(1, [2]int{20, 6}, [2]int{100, 1}, [2]int{200, 7}), []int{5, 6}},
		{branch(1, [2]int{20, 6}, [2]int{100, 5}, [2]int{200, 7}), []int{5, 6}},
		{full, []int{5, 6}}, {root, []int{5, 6, 7}},
	} {
		f := fileOf([][]byte{x.first, last, last, last}, l)
		_, _, _, e := shelf.Decode(f.read, 5)
		var asked []int
		for id := range f.asked {
			asked = append(asked, id)
		}
		slices.Sort(asked)
		if is := bytes.Equal(x.first, full); !slices.Equal(asked, x.asked) || (e == api.OK) != is {
			t.Errorf("%d: asked for %v, %d", i, asked, e)
		}
	}
}

// Levels: a tree with a page too many, or too few, at each of its levels, and one whose pages stand under each other in a ring.
func TestP103Levels(t *testing.T) {
	for _, n := range []int{19, 271, 4051} {
		s := stateFrom(60, repeat(n, free, held)...)
		ids := row(9000, plainNeed(api.G3, s))
		f := listFile(api.G3, s, ids)
		first := plainFirst(api.G3, ids)
		if !decodes(t, f, first) {
			t.Fatal("no list:", n)
		}
		kept := f.pages[first]
		level := int(kept[8])
		f.pages[3] = branch(level+1, [2]int{60, first})
		if decodes(t, f, 3) {
			t.Error("a root of one kid:", n)
		}
		f.pages[3] = branch(level, [2]int{60, first})
		if decodes(t, f, 3) {
			t.Error("a root of one kid of its own level:", n)
		}
		for _, id := range ids {
			b := f.pages[id]
			if b[8] == 0 {
				continue
			}
			for k := range int(b[2]) {
				for _, to := range []int{first, id, ids[0], ids[len(ids)-2]} {
					x := bytes.Clone(b)
					copy(x[16+16*k+8:], number(to, 8))
					f.pages[id] = reseal(x)
					if decodes(t, f, first) != bytes.Equal(f.pages[id], b) {
						t.Errorf("%d runs: page %d: kid %d is page %d", n, id, k, to)
					}
				}
			}
			f.pages[id] = b
		}
	}
}

// Files that go on as long as there are pages: they end, and no page is asked for more than three times.
func TestP103Endless(t *testing.T) {
	one, under, deep := fileOf(nil, nil), fileOf(nil, nil), fileOf(nil, nil)
	for id := 2; id < 1<<14; id++ {
		one.pages[id] = pageOf(api.G1, 65535, id+1, bytes.Repeat([]byte{5, 0, 0, 0}, 62))
		deep.pages[id] = branch(1<<14-1-id, [2]int{20, id + 1})
		var kids [][2]int
		for k := range 15 {
			kids = append(kids, [2]int{20, 15*(id-1) + k})
		}
		under.pages[id] = branch(9, kids...)
		if 15*(id-1) > 1<<14-20 {
			x := leaf(runs(20, 18)...)
			copy(x[2:4], []byte{255, 255})
			under.pages[id] = reseal(x)
		}
	}
	deep.pages[1<<14-1] = leaf([3]int{20, 1, 0})
	for _, f := range []*file{one, under, deep} {
		for _, id := range []int{2, 3, 1000} {
			if decodes(t, f, id) {
				t.Error("a list, from page", id)
			}
		}
	}
	same := leaf(runs(20, 18)...)
	read := func(id int) ([]byte, api.Errno) { return same, api.OK }
	for _, b := range [][]byte{branch(1, [2]int{20, 3}, [2]int{20, 4}), branch(7, [2]int{20, 3}, [2]int{20, 4}), link(1, 7, 0, row(20, 61)...), link(2, 7, 0, row(20, 29)...)} {
		same = b
		refuses(t, read, 2, api.ErrShelfForm)
		refuses(t, read, 7, api.ErrShelfForm)
	}
}

// What stands on pages that may not be a list's is none, even if read tells it.
func TestP103Places(t *testing.T) {
	lists(func(g int, f *file, ids []int) {
		first := plainFirst(g, ids)
		for _, id := range []int{math.MinInt, -7, 1, 1 << 14, 1<<14 + 1, math.MaxInt} {
			f.pages[id] = f.pages[first]
			if decodes(t, f, id) {
				t.Errorf("G%d: a list on page %d", g, id)
			}
		}
	})
	for _, g := range allGens {
		s := stateFrom(60, repeat(100, free, held)...)
		many := plainNeed(g, s)
		for _, from := range []int{-1, 1, 2, 1<<14 - many, 1<<14 - many + 1, 1 << 14} {
			ids := row(from, many)
			if slices.Contains(ids, 0) {
				ids = row(from+many, many)
			}
			f := listFile(g, s, ids)
			decodes(t, f, plainFirst(g, ids))
		}
	}
}

// Pages of other kinds and generations.
func TestP103Kinds(t *testing.T) {
	lists(func(g int, f *file, ids []int) {
		for _, id := range []int{ids[0], ids[len(ids)-1]} {
			b := f.pages[id]
			for kind := range 256 {
				for gen := range 6 {
					x := bytes.Clone(b)
					x[0], x[1] = byte(kind), byte(gen)
					f.pages[id] = x
					first := decodes(t, f, plainFirst(g, ids))
					f.pages[id] = reseal(x)
					second := decodes(t, f, plainFirst(g, ids))
					if same := kind == 'F' && gen == g; (first || second) != same {
						t.Fatalf("G%d, page %d: kind %d, generation %d: %v, %v", g, id, kind, gen, first, second)
					}
				}
			}
			f.pages[id] = b
		}
	})
}

// What is told changes neither with the pages, nor with what else is told; and read may tell the same memory again and again.
func TestP103SharesNothing(t *testing.T) {
	lists(func(g int, f *file, ids []int) {
		first := plainFirst(g, ids)
		_, want, _, _ := plainDecode(f, first)
		memory := make([]byte, 4*256)
		read := func(id int) ([]byte, api.Errno) {
			b, e := f.read(id)
			clear(memory)
			copy(memory, b)
			return memory[:len(b)], e
		}
		_, s, back, e := shelf.Decode(read, first)
		if !isZero(memory[256:]) {
			t.Fatalf("G%d: what stands behind a page is written over", g)
		}
		for k := range memory {
			memory[k] ^= 0xff
		}
		if e != api.OK || !equal(s, want) || !slices.Equal(back, ids) {
			t.Fatalf("G%d: %v, %v, %d", g, s, back, e)
		}
		_ = append(s.Free, of(1, 1, 2, 2, 3, 3)...)
		_ = append(s.Held, of(4, 4, 5, 5, 6, 6)...)
		_ = append(back, 7, 7, 7)
		if !equal(s, want) || !slices.Equal(back, ids) {
			t.Fatalf("G%d: %v, %v: what is told shares memory", g, s, back)
		}
		clear(s.Free)
		if !slices.Equal(s.Held, want.Held) {
			t.Fatalf("G%d: %v: what is told shares memory", g, s)
		}
		if _, again, _, _ := shelf.Decode(f.read, first); !equal(again, want) {
			t.Fatalf("G%d: %v, the second time", g, again)
		}
	})
}

// Files of any bytes, most of them with heads that may be, and small numbers.
func TestP103AnyBytes(t *testing.T) {
	r := dice(103)
	good := 0
	for range 15000 {
		g := allGens[r.IntN(3)]
		f := fileOf(nil, nil)
		for id := range 8 {
			var b []byte
			for k := range r.IntN(5) {
				at := 20 + 10*id + 2*k + r.IntN(3)
				switch {
				case g < api.G3:
					b = append(b, number(at, widthOf(g))...)
				case r.IntN(2) == 0:
					b = append(append(append(b, number(at, 8)...), number(1+r.IntN(2), 4)...), byte(r.IntN(2)))
				default:
					b = append(append(b, number(20+10*k, 8)...), number(2+r.IntN(6), 8)...)
				}
			}
			if g < api.G3 {
				b = append(number(r.IntN(3), 4), b...)
			}
			f.pages[id] = pageOf(g, r.IntN(5), []int{0, 0, 0, 1, r.IntN(8)}[r.IntN(5)], b)
		}
		for id := 1; id < 8; id++ {
			if decodes(t, f, id) {
				good++
			}
		}
	}
	if good < 1000 {
		t.Error("hardly any of them is a list:", good)
	}
}

func TestP104RoundTrip(t *testing.T) {
	r := dice(104)
	for range 4000 {
		g, s := allGens[r.IntN(3)], someState(r)
		if len(s.Free)+len(s.Held) == 0 {
			continue
		}
		ids := someIds(r, shelf.Need(g, s))
		l, e := shelf.Encode(g, s, ids)
		if e != api.OK || len(l) == 0 {
			t.Fatalf("G%d, %v, pages %v: %d", g, s, ids, e)
		}
		f := fileOf(l, ids)
		got, back, pages, e := shelf.Decode(f.read, shelf.First(g, ids))
		if got != g || !shelf.Same(back, s) || !slices.Equal(pages, ids) || e != api.OK {
			t.Fatalf("G%d, %v, pages %v: %d, %v, %v, %d", g, s, ids, got, back, pages, e)
		}
		if f.most() > 3 {
			t.Fatalf("asked for %v", f.asked)
		}
	}
}

// All states of seven pages, at the first page, at the last one, and between.
func TestP104AllSmall(t *testing.T) {
	for n := range 3 * 3 * 3 * 3 * 3 * 3 * 3 {
		var marks []byte
		for k := n; len(marks) < 7; k /= 3 {
			marks = append(marks, byte(k%3))
		}
		for _, from := range []int{2, 250, 1<<14 - 7} {
			s := stateFrom(from, marks...)
			for _, g := range allGens {
				ids := row(5, shelf.Need(g, s))
				l, e := shelf.Encode(g, s, ids)
				if e != api.OK || len(ids) != min(n, 1) || !slices.EqualFunc(l, plainEncode(g, s, ids), bytes.Equal) {
					t.Fatalf("G%d, %v: %x, %d", g, s, l, e)
				}
				got, back, pages, e := shelf.Decode(fileOf(l, ids).read, shelf.First(g, ids))
				if n == 0 {
					g = 0
				}
				if got != g || !shelf.Same(back, s) || !slices.Equal(pages, ids) || e != api.OK {
					t.Fatalf("G%d, %v: %d, %v, %v, %d", g, s, got, back, pages, e)
				}
			}
		}
	}
}

// Two lists stand side by side: each is decoded as it was.
func TestP104TwoLists(t *testing.T) {
	a, b := stateFrom(60, repeat(100, free, held)...), stateFrom(500, repeat(77, held, used, free)...)
	for _, g := range allGens {
		for _, h := range allGens {
			at := row(5, shelf.Need(g, a))
			bt := row(5+len(at), shelf.Need(h, b))
			l, _ := shelf.Encode(g, a, at)
			m, _ := shelf.Encode(h, b, bt)
			f := fileOf(slices.Concat(l, m), slices.Concat(at, bt))
			for _, id := range slices.Concat(at, bt) {
				decodes(t, f, id)
			}
			if got, s, ids, e := shelf.Decode(f.read, shelf.First(g, at)); got != g || !shelf.Same(s, a) || !slices.Equal(ids, at) || e != api.OK {
				t.Errorf("G%d beside G%d: %d, %v, %d", g, h, got, s, e)
			}
			if got, s, ids, e := shelf.Decode(f.read, shelf.First(h, bt)); got != h || !shelf.Same(s, b) || !slices.Equal(ids, bt) || e != api.OK {
				t.Errorf("G%d beside G%d: %d, %v, %d", h, g, got, s, e)
			}
		}
	}
}

// With a bit turned pages are decoded as the state no more; of G2 and G3 they are refused.
func TestP104Bits(t *testing.T) {
	s := stateFrom(60, repeat(80, free, held, used)...)
	for _, g := range allGens {
		ids := row(5, shelf.Need(g, s))
		l, _ := shelf.Encode(g, s, ids)
		f := fileOf(l, ids)
		for bit := range 2048 * len(ids) {
			b := f.pages[ids[bit/2048]]
			b[bit%2048/8] ^= 1 << (bit % 8)
			_, back, pages, e := shelf.Decode(f.read, shelf.First(g, ids))
			if e == api.OK && (g != api.G1 || shelf.Same(back, s) && slices.Equal(pages, ids)) || e != api.OK && e != api.ErrShelfForm {
				t.Fatalf("G%d, bit %d: %v, %v, %d", g, bit, back, pages, e)
			}
			b[bit%2048/8] ^= 1 << (bit % 8)
		}
	}
}
