package pool_test

import (
	"math"
	"math/rand/v2"
	"slices"
	"testing"

	"regauge/api"
	"regauge/pool"
	"regauge/run"
	"regauge/shelf"
)

// row is the runs of pairs: where one begins, and how long it is.
func row(l ...int) []run.Run {
	var out []run.Run
	for pair := range slices.Chunk(l, 2) {
		out = append(out, run.Run{At: pair[0], Len: pair[1]})
	}
	return out
}

func state(free, held []run.Run) shelf.State {
	return shelf.State{Free: free, Held: held}
}

// some is a pool of 20 pages, 30 at most: free are 3, 6 to 8, 18 and 19; transaction 4 holds 10 and 11, transaction 7 holds 5, 13 and 14.
func some(t *testing.T) *pool.Pool {
	t.Helper()
	p, e := pool.New(state(row(3, 1, 6, 3, 18, 2), row(10, 2)), 4, 20, 30)
	if e != api.OK || p == nil {
		t.Fatal("New:", e)
	}
	wantNo(t, "Give", p.Give(7, run.Run{At: 13, Len: 2}), api.OK)
	wantNo(t, "Give", p.Give(7, run.Run{At: 5, Len: 1}), api.OK)
	return p
}

// somePlain is the same, told page by page.
func somePlain() *plain {
	const u, f = used, free
	return &plain{[]int{u, u, u, f, u, 7, f, f, f, u, 4, 4, u, 7, 7, u, u, u, f, f}, 30}
}

func wantNo(t *testing.T, what string, got, want api.Errno) {
	t.Helper()
	if got != want {
		t.Fatalf("%s: error %d, want %d", what, got, want)
	}
}

func wantTaken(t *testing.T, what string, at int, e api.Errno, wantAt int, wantE api.Errno) {
	t.Helper()
	if at != wantAt || e != wantE {
		t.Fatalf("%s: %d, error %d; want %d, error %d", what, at, e, wantAt, wantE)
	}
}

func wantRow(t *testing.T, what string, got, want []run.Run) {
	t.Helper()
	if !slices.Equal(got, want) {
		t.Fatalf("%s: %v, want %v", what, got, want)
	}
}

func TestP111New(t *testing.T) {
	for _, x := range []struct {
		s                  shelf.State
		txid, pages, limit int
	}{
		{state(nil, nil), 0, 2, 2},
		{state(nil, nil), 0, 2, api.MaxPages},
		{state(nil, nil), math.MaxInt, 2, 3},
		{state([]run.Run{}, []run.Run{}), 1, 9, 9},
		{state(nil, nil), 9, api.MaxPages, api.MaxPages},
		{state(row(2, 1), nil), 0, 3, 3},
		{state(nil, row(2, 1)), 0, 3, 3},
		{state(row(4, 1, 6, 3), row(10, 2)), 5, 14, 18},
		{state(row(4, 1, 6, 3), row(10, 2)), 5, 12, 12},
		{state(row(6, 2), row(2, 4, 8, 2)), 5, 10, 11},
		{state(row(2, api.MaxPages-2), nil), 3, api.MaxPages, api.MaxPages},
		{state(nil, row(2, api.MaxPages-2)), 3, api.MaxPages, api.MaxPages},
		{state(row(2, 99), row(101, api.MaxPages-101)), 3, api.MaxPages, api.MaxPages},
	} {
		p, e := pool.New(x.s, x.txid, x.pages, x.limit)
		if e != api.OK || p == nil {
			t.Fatalf("New(%v, %d, %d, %d): %d", x.s, x.txid, x.pages, x.limit, e)
		}
		if p.Pages() != x.pages {
			t.Fatalf("Pages is %d, want %d", p.Pages(), x.pages)
		}
		wantRow(t, "Free", p.Free(), x.s.Free)
		wantRow(t, "Held", p.Held(), x.s.Held)
		if s := p.State(x.txid); !shelf.Same(s, x.s) {
			t.Fatalf("State is %v, want %v", s, x.s)
		}
	}
}

func TestP111NewRefuses(t *testing.T) {
	good := state(row(4, 1, 6, 3), row(10, 2))
	const most = api.MaxPages
	for _, x := range []struct {
		s                  shelf.State
		txid, pages, limit int
	}{
		{good, -1, 14, 18}, {good, math.MinInt, 14, 18}, // the transaction
		{good, 5, 11, 18}, {good, 5, 10, 18}, {good, 5, 0, 18}, {good, 5, -1, 18}, {good, 5, math.MinInt, 18}, // too few pages
		{good, 5, 19, 18}, {good, 5, 14, 13}, {good, 5, 14, 0}, {good, 5, 14, -1}, {good, 5, 14, math.MinInt}, {good, 5, math.MaxInt, 18}, // above the limit
		{good, 5, 14, most + 1}, {good, 5, most + 1, most + 1}, {good, 5, most + 1, most}, {good, 5, 14, math.MaxInt}, {good, 5, math.MaxInt, math.MaxInt}, // above all limits
		{state(nil, nil), 5, 1, 18}, {state(nil, nil), 5, 1, 1}, {state(nil, nil), 5, 0, 0}, {state(nil, nil), 5, -1, -1}, {state(nil, nil), -1, 14, 18},
		{state(row(14, 1), nil), 5, 14, 18}, {state(row(13, 2), nil), 5, 14, 18}, {state(nil, row(14, 1)), 5, 14, 18}, {state(nil, row(4, 1, 13, 2)), 5, 14, 18}, // pages that there are not
		{state(row(2, 1), row(2, 1)), 5, 14, 18}, {state(row(4, 5), row(8, 2)), 5, 14, 18}, // in both
		{state(row(1, 1), nil), 5, 14, 18}, {state(nil, row(1, 2)), 5, 14, 18}, {state(row(0, 1), nil), 5, 14, 18}, {state(row(-1, 1), nil), 5, 14, 18}, // the metas, and none
		{state(row(4, 0), nil), 5, 14, 18}, {state(nil, row(4, -1)), 5, 14, 18}, {state(row(4, math.MaxInt), nil), 5, 14, 18}, {state(row(math.MaxInt, 1), nil), 5, 14, 18}, {state(row(math.MinInt, 1), nil), 5, 14, 18},
		{state(row(4, 1, 5, 1), nil), 5, 14, 18}, {state(nil, row(6, 1, 4, 1)), 5, 14, 18}, {state(row(4, 3, 5, 4), nil), 5, 14, 18}, // runs that are not right
	} {
		if p, e := pool.New(x.s, x.txid, x.pages, x.limit); p != nil || e != api.ErrArg {
			t.Errorf("New(%v, %d, %d, %d): %v, %d", x.s, x.txid, x.pages, x.limit, p, e)
		}
	}
}

// All runs of a few pages, free and held, with all numbers around them.
func TestP111NewEach(t *testing.T) {
	var runs [][]run.Run
	for at := 1; at < 6; at++ {
		for n := range 5 {
			runs = append(runs, row(at, n), row(2, 1, at, n), row(at, n, 5, 1))
		}
	}
	for _, free := range append(runs, nil) {
		for _, held := range append(runs, nil) {
			for pages := 1; pages < 8; pages++ {
				s := state(free, held)
				m := newPlain(s, 3, pages, 7)
				p, e := pool.New(s, 3, pages, 7)
				if m == nil {
					if p != nil || e != api.ErrArg {
						t.Fatalf("New(%v, 3, %d, 7): %v, %d", s, pages, p, e)
					}
					continue
				}
				wantNo(t, "New", e, api.OK)
				wantPool(t, "New", p, m, 3, 4)
			}
		}
	}
}

func TestP111FreeHeld(t *testing.T) {
	p := some(t)
	wantRow(t, "Free", p.Free(), row(3, 1, 6, 3, 18, 2))
	wantRow(t, "Held", p.Held(), row(5, 1, 10, 2, 13, 2))
	wantNo(t, "Give", p.Give(5, run.Run{At: 12, Len: 1}), api.OK)
	wantRow(t, "Held by three, one behind the other", p.Held(), row(5, 1, 10, 5))
	wantPool(t, "all", some(t), somePlain(), -1, 0, 4, 5, 7, 8)
}

// What was handed in, and what was told, may be written into: the pool stays as it is.
func TestP111SharesNothing(t *testing.T) {
	spoil := func(l []run.Run) {
		for k := range l {
			l[k] = run.Run{At: 2, Len: 1}
		}
		_ = append(l[:0], row(9, 9, 9, 9, 9, 9)...)
	}
	free, held := row(3, 1, 6, 3, 18, 2), row(10, 2)
	p, _ := pool.New(state(free, held), 4, 20, 30)
	wantRow(t, "free as it was", free, row(3, 1, 6, 3, 18, 2))
	wantRow(t, "held as it was", held, row(10, 2))
	spoil(free)
	spoil(held)
	p.Give(7, run.Run{At: 13, Len: 2})
	p.Give(7, run.Run{At: 5, Len: 1})
	wantPool(t, "what was handed in", p, somePlain(), 4, 7)
	q := p.Copy()
	for _, x := range []*pool.Pool{p, q} {
		spoil(x.Free())
		spoil(x.Held())
		for txid := 3; txid < 9; txid++ {
			spoil(x.State(txid).Free)
			spoil(x.State(txid).Held)
		}
		wantPool(t, "what was told", p, somePlain(), 4, 7)
		wantPool(t, "what was told, of the copy", q, somePlain(), 4, 7)
	}
	one, _ := pool.New(state(row(3, 2), row(7, 2)), 4, 20, 30)
	spoil(one.Held())
	spoil(one.State(4).Free)
	spoil(one.State(4).Held)
	spoil(one.State(5).Free)
	wantRow(t, "free alone", one.Free(), row(3, 2))
	wantRow(t, "held alone", one.Held(), row(7, 2))
}

// changes are all calls that change a pool.
var changes = []func(p *pool.Pool){
	func(p *pool.Pool) { p.Take(1) },
	func(p *pool.Pool) { p.Take(2) },
	func(p *pool.Pool) { p.Take(3) },
	func(p *pool.Pool) { p.Take(4) },
	func(p *pool.Pool) { p.Grow(3) },
	func(p *pool.Pool) { p.Give(4, run.Run{At: 12, Len: 1}) },
	func(p *pool.Pool) { p.Give(7, run.Run{At: 9, Len: 1}) },
	func(p *pool.Pool) { p.Give(8, run.Run{At: 15, Len: 3}) },
	func(p *pool.Pool) { p.Settle(9, 5) },
	func(p *pool.Pool) { p.Settle(9, 9) },
}

func TestP111Copy(t *testing.T) {
	for k, change := range changes {
		p := some(t)
		q := p.Copy()
		if q == nil || q == p {
			t.Fatal("no copy")
		}
		wantPool(t, "the copy", q, somePlain(), 4, 7, 8)
		change(p)
		wantPool(t, "the copy of what was changed", q, somePlain(), 4, 7, 8)
		changed := p.Copy()
		for _, other := range changes {
			other(q)
		}
		if p.Pages() != changed.Pages() || !slices.Equal(p.Free(), changed.Free()) || !slices.Equal(p.Held(), changed.Held()) || !shelf.Same(p.State(7), changed.State(7)) {
			t.Fatalf("change %d: what the copy was of is changed with it", k)
		}
	}
}

// A copy of a copy goes on just as what it was of, up to the limit.
func TestP111CopyGoesOn(t *testing.T) {
	p := some(t)
	q := p.Copy().Copy()
	for _, change := range changes {
		change(p)
		change(q)
		if p.Pages() != q.Pages() || !slices.Equal(p.Free(), q.Free()) || !slices.Equal(p.Held(), q.Held()) || !shelf.Same(p.State(8), q.State(8)) {
			t.Fatal("a copy goes another way")
		}
	}
	q = some(t).Copy()
	at, e := q.Grow(11)
	wantTaken(t, "a copy above the limit", at, e, 0, api.ErrFull)
	at, e = q.Grow(10)
	wantTaken(t, "a copy at the limit", at, e, 20, api.OK)
}

func TestP112Example(t *testing.T) {
	p, e := pool.New(state(row(5, 2), nil), 1, 8, 20)
	wantNo(t, "New", e, api.OK)
	at, e := p.Take(2)
	wantTaken(t, "Take(2)", at, e, 5, api.OK)
	at, e = p.Take(1)
	wantTaken(t, "Take(1)", at, e, 8, api.OK)
}

func TestP112Take(t *testing.T) {
	for _, x := range []struct {
		n, at int
		e     api.Errno
		free  []run.Run
		pages int
	}{
		{1, 3, api.OK, row(6, 3, 18, 2), 20},       // all of the first run
		{2, 6, api.OK, row(3, 1, 8, 1, 18, 2), 20}, // the first pages of the first run that has as many, though another one has just as many
		{3, 6, api.OK, row(3, 1, 18, 2), 20},
		{4, 18, api.OK, row(3, 1, 6, 3), 22}, // behind what is free at the end
		{12, 18, api.OK, row(3, 1, 6, 3), 30},
		{13, 0, api.ErrFull, row(3, 1, 6, 3, 18, 2), 20},
		{0, 0, api.ErrArg, row(3, 1, 6, 3, 18, 2), 20},
		{-1, 0, api.ErrArg, row(3, 1, 6, 3, 18, 2), 20},
		{math.MinInt, 0, api.ErrArg, row(3, 1, 6, 3, 18, 2), 20},
		{math.MaxInt, 0, api.ErrFull, row(3, 1, 6, 3, 18, 2), 20},
		{math.MaxInt - 17, 0, api.ErrFull, row(3, 1, 6, 3, 18, 2), 20},
		{api.MaxPages, 0, api.ErrFull, row(3, 1, 6, 3, 18, 2), 20},
	} {
		p := some(t)
		at, e := p.Take(x.n)
		wantTaken(t, "Take", at, e, x.at, x.e)
		wantRow(t, "Free", p.Free(), x.free)
		wantRow(t, "Held", p.Held(), row(5, 1, 10, 2, 13, 2))
		if p.Pages() != x.pages {
			t.Fatalf("Take(%d): %d pages, want %d", x.n, p.Pages(), x.pages)
		}
	}
}

func TestP112Grow(t *testing.T) {
	for _, x := range []struct {
		n, at int
		e     api.Errno
		pages int
	}{
		{1, 20, api.OK, 21}, {2, 20, api.OK, 22}, {10, 20, api.OK, 30}, {11, 0, api.ErrFull, 20}, {12, 0, api.ErrFull, 20},
		{0, 0, api.ErrArg, 20}, {-1, 0, api.ErrArg, 20}, {math.MinInt, 0, api.ErrArg, 20}, {math.MaxInt, 0, api.ErrFull, 20}, {math.MaxInt - 19, 0, api.ErrFull, 20},
	} {
		p := some(t)
		at, e := p.Grow(x.n)
		wantTaken(t, "Grow", at, e, x.at, x.e)
		wantRow(t, "Free", p.Free(), row(3, 1, 6, 3, 18, 2))
		wantRow(t, "Held", p.Held(), row(5, 1, 10, 2, 13, 2))
		if p.Pages() != x.pages {
			t.Fatalf("Grow(%d): %d pages, want %d", x.n, p.Pages(), x.pages)
		}
	}
}

// All rows of a few pages: what is taken, one time and another, and what is left.
func TestP112Each(t *testing.T) {
	eachPool(t, 5, func(p *pool.Pool, m *plain) {
		for n := -1; n < 11; n++ {
			for k := range 4 {
				q, o := p.Copy(), m.copy()
				takes := []func(int) (int, api.Errno){q.Take, q.Grow}
				wants := []func(int) (int, api.Errno){o.take, o.grow}
				for _, j := range []int{k % 2, k / 2} {
					at, e := takes[j](n)
					wantAt, wantE := wants[j](n)
					wantTaken(t, "Take or Grow", at, e, wantAt, wantE)
					wantPool(t, "Take or Grow", q, o, 5, 6)
				}
			}
		}
	})
}

// What is in use, held, or free at the end, at the greatest limit.
func TestP112Full(t *testing.T) {
	const most = api.MaxPages
	p, _ := pool.New(state(nil, nil), 0, 2, most)
	at, e := p.Take(most - 1)
	wantTaken(t, "more than there may be", at, e, 0, api.ErrFull)
	at, e = p.Take(most - 2)
	wantTaken(t, "all", at, e, 2, api.OK)
	at, e = p.Take(1)
	wantTaken(t, "one more", at, e, 0, api.ErrFull)
	at, e = p.Grow(1)
	wantTaken(t, "one more, grown", at, e, 0, api.ErrFull)
	wantRow(t, "Free", p.Free(), nil)
	wantNo(t, "Give of all", p.Give(3, run.Run{At: 2, Len: most - 2}), api.OK)
	at, e = p.Take(1)
	wantTaken(t, "one that is held", at, e, 0, api.ErrFull)
	p.Settle(5, 3)
	at, e = p.Grow(1)
	wantTaken(t, "grown, though all are free", at, e, 0, api.ErrFull)
	for page := 2; page < most; page++ {
		at, e = p.Take(1)
		wantTaken(t, "one by one", at, e, page, api.OK)
	}
	at, e = p.Take(1)
	wantTaken(t, "one more", at, e, 0, api.ErrFull)
	if p.Pages() != most {
		t.Fatalf("%d pages", p.Pages())
	}
}

// The last free run counts just if it ends where the pages end.
func TestP112Tail(t *testing.T) {
	for _, x := range []struct {
		free, held []run.Run
		at, pages  int
		left       []run.Run
	}{
		{row(8, 2), nil, 8, 13, nil},
		{row(7, 2), nil, 10, 15, row(7, 2)},
		{row(2, 1, 6, 4), nil, 6, 11, row(2, 1)},
		{row(6, 3), row(9, 1), 10, 15, row(6, 3)},
		{row(9, 1), row(6, 3), 9, 14, nil},
		{nil, row(9, 1), 10, 15, nil},
		{nil, nil, 10, 15, nil},
	} {
		p, _ := pool.New(state(x.free, x.held), 0, 10, 15)
		at, e := p.Take(5)
		wantTaken(t, "Take(5)", at, e, x.at, api.OK)
		wantRow(t, "Free", p.Free(), x.left)
		wantRow(t, "Held", p.Held(), x.held)
		if p.Pages() != x.pages {
			t.Fatalf("%v: %d pages, want %d", x.free, p.Pages(), x.pages)
		}
	}
}

func TestP113Give(t *testing.T) {
	for _, x := range []struct {
		txid, at, n int
		e           api.Errno
	}{
		{7, 2, 1, api.OK}, {0, 2, 1, api.OK}, {8, 4, 1, api.OK}, {9, 9, 1, api.OK}, {9, 15, 3, api.OK}, {math.MaxInt, 15, 1, api.OK}, {4, 12, 1, api.OK},
		{7, 3, 1, api.ErrPoolTwice}, {7, 2, 2, api.ErrPoolTwice}, {7, 15, 4, api.ErrPoolTwice}, {7, 18, 2, api.ErrPoolTwice}, {7, 2, 18, api.ErrPoolTwice}, // one that is free
		{4, 10, 1, api.ErrPoolTwice}, {7, 10, 2, api.ErrPoolTwice}, {9, 11, 2, api.ErrPoolTwice}, {4, 9, 2, api.ErrPoolTwice}, // one that 4 holds
		{7, 5, 1, api.ErrPoolTwice}, {4, 4, 2, api.ErrPoolTwice}, {9, 12, 2, api.ErrPoolTwice}, {9, 14, 2, api.ErrPoolTwice}, // one that 7 holds
		{-1, 2, 1, api.ErrArg}, {-1, 3, 1, api.ErrArg}, {math.MinInt, 2, 1, api.ErrArg}, // the transaction
		{7, 1, 1, api.ErrArg}, {7, 0, 1, api.ErrArg}, {7, 1, 2, api.ErrArg}, {7, 0, 3, api.ErrArg}, {7, -1, 1, api.ErrArg}, {7, -1, 4, api.ErrArg}, {7, math.MinInt, 1, api.ErrArg}, // the metas, and none
		{7, 2, 0, api.ErrArg}, {7, 2, -1, api.ErrArg}, {7, 3, 0, api.ErrArg}, {7, 17, -1, api.ErrArg}, {7, 2, math.MinInt, api.ErrArg}, {7, 20, 0, api.ErrArg}, // no run
		{7, 20, 1, api.ErrArg}, {7, 19, 2, api.ErrArg}, {7, 17, 4, api.ErrArg}, {7, 2, 19, api.ErrArg}, {7, 21, 1, api.ErrArg}, {7, 29, 1, api.ErrArg}, // behind the end
		{7, 2, math.MaxInt, api.ErrArg}, {7, math.MaxInt, 1, api.ErrArg}, {7, math.MaxInt, math.MaxInt, api.ErrArg}, {7, 2, math.MaxInt - 1, api.ErrArg}, {7, math.MinInt, math.MinInt, api.ErrArg}, {7, math.MinInt, math.MaxInt, api.ErrArg}, {7, math.MaxInt, math.MinInt, api.ErrArg},
	} {
		p, m := some(t), somePlain()
		wantNo(t, "Give", p.Give(x.txid, run.Run{At: x.at, Len: x.n}), x.e)
		wantNo(t, "the plain one", m.give(x.txid, run.Run{At: x.at, Len: x.n}), x.e)
		wantPool(t, "Give", p, m, -1, 0, 4, 7, 8, 9, math.MaxInt)
	}
}

// All rows of a few pages: all runs around them are given, one behind another.
func TestP113GiveEach(t *testing.T) {
	eachMarks(4, 5, func(marks []int) {
		p, m := made(t, marks, 5, len(marks)+2)
		for at := -1; at < 8; at++ {
			for n := -1; n < 8; n++ {
				for _, txid := range []int{5, 6} {
					q, o := p.Copy(), m.copy()
					x := run.Run{At: at, Len: n}
					wantNo(t, "Give", q.Give(txid, x), o.give(txid, x))
					wantPool(t, "Give", q, o, 4, 5, 6)
				}
			}
		}
	})
}

func TestP113Settle(t *testing.T) {
	for _, x := range []struct {
		txid, oldest int
		free, held   []run.Run
	}{
		{5, 99, row(3, 1, 6, 3, 18, 2), row(5, 1, 10, 2, 13, 2)}, // 4 is the one ahead of 5
		{6, 99, row(3, 1, 6, 3, 10, 2, 18, 2), row(5, 1, 13, 2)},
		{6, 4, row(3, 1, 6, 3, 10, 2, 18, 2), row(5, 1, 13, 2)},
		{6, 3, row(3, 1, 6, 3, 18, 2), row(5, 1, 10, 2, 13, 2)}, // somebody reads what was ahead of 4
		{8, 99, row(3, 1, 6, 3, 10, 2, 18, 2), row(5, 1, 13, 2)},
		{9, 6, row(3, 1, 6, 3, 10, 2, 18, 2), row(5, 1, 13, 2)},
		{9, 7, row(3, 1, 5, 4, 10, 2, 13, 2, 18, 2), nil}, // 5 is free, and one run with 6 to 8
		{99, 99, row(3, 1, 5, 4, 10, 2, 13, 2, 18, 2), nil},
		{math.MaxInt, math.MaxInt, row(3, 1, 5, 4, 10, 2, 13, 2, 18, 2), nil},
		{math.MaxInt, 0, row(3, 1, 6, 3, 18, 2), row(5, 1, 10, 2, 13, 2)},
		{math.MaxInt, -1, row(3, 1, 6, 3, 18, 2), row(5, 1, 10, 2, 13, 2)},
		{math.MaxInt, math.MinInt, row(3, 1, 6, 3, 18, 2), row(5, 1, 10, 2, 13, 2)},
		{0, 99, row(3, 1, 6, 3, 18, 2), row(5, 1, 10, 2, 13, 2)},
		{-1, 99, row(3, 1, 6, 3, 18, 2), row(5, 1, 10, 2, 13, 2)},
		{math.MinInt, math.MaxInt, row(3, 1, 6, 3, 18, 2), row(5, 1, 10, 2, 13, 2)},
		{math.MinInt + 1, math.MaxInt, row(3, 1, 6, 3, 18, 2), row(5, 1, 10, 2, 13, 2)},
		{math.MinInt, math.MinInt, row(3, 1, 6, 3, 18, 2), row(5, 1, 10, 2, 13, 2)},
	} {
		p := some(t)
		for range 2 { // a second time nothing is left to free
			p.Settle(x.txid, x.oldest)
			wantRow(t, "Free", p.Free(), x.free)
			wantRow(t, "Held", p.Held(), x.held)
		}
		if p.Pages() != 20 {
			t.Fatalf("Settle(%d, %d): %d pages", x.txid, x.oldest, p.Pages())
		}
	}
}

// Transactions 0 to 9 hold a page each, and the greatest ones, too: all pairs of numbers around them.
func TestP113SettleEach(t *testing.T) {
	edges := []int{math.MinInt, math.MinInt + 1, math.MinInt + 2, -2, -1, math.MaxInt - 3, math.MaxInt - 2, math.MaxInt - 1, math.MaxInt}
	for k := range 13 {
		edges = append(edges, k)
	}
	p, _ := pool.New(state(nil, nil), 0, 16, 16)
	m := newPlain(shelf.State{}, 0, 16, 16)
	for k, txid := range []int{4, 0, 1, 2, 3, 9, 8, 7, 6, 5, math.MaxInt, math.MaxInt - 1, math.MaxInt - 2, math.MaxInt - 3} {
		x := run.Run{At: 2 + k, Len: 1}
		wantNo(t, "Give", p.Give(txid, x), m.give(txid, x))
	}
	for _, txid := range edges {
		for _, oldest := range edges {
			q, o := p.Copy(), m.copy()
			q.Settle(txid, oldest)
			o.settle(txid, oldest)
			wantPool(t, "Settle", q, o, edges...)
		}
	}
}

// What one transaction gives up another one takes, when the state ahead, and those that are read, are behind it.
func TestP113GiveSettleTake(t *testing.T) {
	p, _ := pool.New(state(nil, nil), 0, 8, 8)
	wantNo(t, "Give", p.Give(5, run.Run{At: 4, Len: 2}), api.OK)
	for _, x := range []struct{ txid, oldest int }{{5, 99}, {6, 99}, {7, 4}, {99, 4}} {
		p.Settle(x.txid, x.oldest)
		at, e := p.Take(1)
		wantTaken(t, "ahead of that", at, e, 0, api.ErrFull)
	}
	p.Settle(7, 5)
	at, e := p.Take(2)
	wantTaken(t, "then", at, e, 4, api.OK)
	wantNo(t, "Give, again", p.Give(7, run.Run{At: 4, Len: 2}), api.OK)
	if s := p.State(7); !shelf.Same(s, state(nil, row(4, 2))) {
		t.Fatalf("State is %v", s)
	}
}

func TestP113State(t *testing.T) {
	p := some(t)
	all := row(3, 1, 5, 4, 10, 2, 13, 2, 18, 2)
	for _, x := range []struct {
		txid       int
		free, held []run.Run
	}{
		{4, row(3, 1, 5, 4, 13, 2, 18, 2), row(10, 2)},
		{7, row(3, 1, 6, 3, 10, 2, 18, 2), row(5, 1, 13, 2)},
		{0, all, nil}, {5, all, nil}, {6, all, nil}, {8, all, nil}, {-1, all, nil}, {math.MinInt, all, nil}, {math.MaxInt, all, nil},
	} {
		if s := p.State(x.txid); !shelf.Same(s, state(x.free, x.held)) {
			t.Fatalf("State(%d) is %v, want %v, %v", x.txid, s, x.free, x.held)
		}
	}
	wantPool(t, "State changes nothing", p, somePlain(), 4, 7)
}

// What a state says, read anew: what that transaction holds is held still, all else is free.
func TestP113StateAnew(t *testing.T) {
	s := some(t).State(7)
	p, e := pool.New(s, 7, 20, 30)
	wantNo(t, "New", e, api.OK)
	if again := p.State(7); !shelf.Same(again, s) {
		t.Fatalf("State is %v, was %v", again, s)
	}
	wantRow(t, "Free", p.Free(), row(3, 1, 6, 3, 10, 2, 18, 2))
	wantRow(t, "Held", p.Held(), row(5, 1, 13, 2))
}

// The same calls tell the same, in whatever order a map is gone through.
func TestP113SameAgain(t *testing.T) {
	made := func() *pool.Pool {
		p, _ := pool.New(state(nil, nil), 0, 2000, 3000)
		for k := range 900 {
			wantNo(t, "Give", p.Give(k*7%900, run.Run{At: 2 + 2*k, Len: 1 + k%2}), api.OK)
		}
		return p
	}
	p := made()
	for range 20 {
		q := made()
		wantRow(t, "Held", q.Held(), p.Held())
		if !shelf.Same(q.State(40), p.State(40)) {
			t.Fatal("another state")
		}
		o := p.Copy()
		o.Settle(700, 500)
		q.Settle(700, 500)
		wantRow(t, "Free", q.Free(), o.Free())
		wantRow(t, "Held", q.Held(), o.Held())
	}
}

// Many transactions hold something, up to the greatest page: each has what it gave up, and no other one has it.
func TestP113Many(t *testing.T) {
	const most = api.MaxPages
	p, _ := pool.New(state(nil, nil), 0, most, most)
	m := newPlain(shelf.State{}, 0, most, most)
	for page := 2; page < most; page += 3 {
		x := run.Run{At: page, Len: 1 + page%2}
		wantNo(t, "Give", p.Give(page%1000, x), m.give(page%1000, x))
		wantNo(t, "Give, again", p.Give(1, x), api.ErrPoolTwice)
	}
	wantPool(t, "all", p, m, 0, 1, 2, 500, 999, 1000)
	p.Settle(502, 9999)
	m.settle(502, 9999)
	wantPool(t, "settled", p, m, 0, 1, 2, 500, 501, 999, 1000)
}

// marked is what a pool tells of each page; it fails where a page is two things.
func marked(t *testing.T, p *pool.Pool) []int {
	t.Helper()
	marks := make([]int, p.Pages())
	for page := range marks {
		marks[page] = used
	}
	for k, l := range [][]run.Run{p.Free(), p.Held()} {
		if !run.Right(l) {
			t.Fatalf("%v are not right", l)
		}
		for _, page := range run.Pages(l) {
			if page < 2 || page >= len(marks) || marks[page] != used {
				t.Fatalf("page %d of %d is told twice, or may not be told", page, len(marks))
			}
			marks[page] = []int{free, 0}[k]
		}
	}
	return marks
}

// wantFromFree holds that what was taken was free, or new, is in use, and that nothing else is another thing than it was.
func wantFromFree(t *testing.T, p *pool.Pool, was []int, x run.Run) {
	t.Helper()
	now := marked(t, p)
	for page, mark := range now {
		in := page >= x.At && page < x.At+x.Len
		isNew := page >= len(was)
		switch {
		case in && mark != used, in && !isNew && was[page] != free:
			t.Fatalf("page %d was taken, was %v, is %d", page, was, mark)
		case !in && isNew, !in && was[page] != mark:
			t.Fatalf("page %d was not taken, and is %d", page, mark)
		}
	}
}

func TestP114Taken(t *testing.T) {
	eachPool(t, 5, func(p *pool.Pool, m *plain) {
		for n := range 9 {
			q := p.Copy()
			was := marked(t, q)
			at, e := q.Take(n)
			if e != api.OK {
				n = 0
			}
			wantFromFree(t, q, was, run.Run{At: at, Len: n})
		}
	})
}

// step does one thing of a long way to a pool, and to a plain one.
func step(t *testing.T, r *rand.Rand, p *pool.Pool, m *plain, txid int) {
	t.Helper()
	was := marked(t, p)
	switch n := 1 + r.IntN(4); r.IntN(6) {
	case 0, 1:
		at, e := p.Take(n)
		wantAt, wantE := m.take(n)
		wantTaken(t, "Take", at, e, wantAt, wantE)
		if e == api.OK {
			wantFromFree(t, p, was, run.Run{At: at, Len: n})
		}
	case 2:
		at, e := p.Grow(n)
		wantAt, wantE := m.grow(n)
		wantTaken(t, "Grow", at, e, wantAt, wantE)
		if e == api.OK && at < len(was) {
			t.Fatalf("Grow(%d) told %d of %d pages", n, at, len(was))
		}
	case 3, 4:
		x := run.Run{At: r.IntN(len(m.marks)), Len: n}
		wantNo(t, "Give", p.Give(txid, x), m.give(txid, x))
	case 5:
		oldest := txid - r.IntN(6)
		p.Settle(txid, oldest)
		m.settle(txid, oldest)
	}
	wantPool(t, "a step", p, m, txid-1, txid, txid+1)
	marked(t, p)
}

// A long way: pages are taken, given up by one transaction after another, settled, and taken again. Copies that are left behind stay as they were.
func TestP114LongWay(t *testing.T) {
	for seed := range uint64(60) {
		r := rand.New(rand.NewPCG(seed, 11))
		limit := 4 + r.IntN(60)
		p, _ := pool.New(shelf.State{}, 0, 2, limit)
		m := newPlain(shelf.State{}, 0, 2, limit)
		left, leftPlain := p.Copy(), m.copy()
		for k := range 400 {
			step(t, r, p, m, k/10)
			if k%50 == 0 {
				wantPool(t, "a copy that was left", left, leftPlain, 0, k/10)
				left, leftPlain, p, m = p, m, p.Copy(), m.copy()
			}
		}
	}
}
