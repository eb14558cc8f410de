package txn_test

import (
	"bytes"
	"math"
	"math/rand/v2"
	"slices"
	"testing"

	"regauge/api"
	"regauge/check"
	"regauge/disk"
	"regauge/meta"
	"regauge/pager"
	"regauge/run"
	"regauge/shelf"
	"regauge/txn"
)

// put commits one key.
func put(s *txn.Store, key string, size int) {
	must(s.Begin())
	must(s.Put([]byte(key), []byte(text(size, size))))
	must(s.Commit())
}

func wantPages(t *testing.T, s *txn.Store, m meta.Meta, over, list, free, held []int) {
	t.Helper()
	r := look(t, s)
	if !meta.Same(r.M, m) || !slices.Equal(r.Over, over) || !slices.Equal(r.List, list) || !shelf.Same(r.S, shelf.State{Free: run.Of(free), Held: run.Of(held)}) {
		t.Fatalf("the file is %v, values on %v, list on %v, %v; want %v, %v, %v, %v, %v", r.M, r.Over, r.List, r.S, m, over, list, free, held)
	}
}

// Which pages are taken, and given up, reckoned by hand.
func TestP174Pages(t *testing.T) {
	s, e := txn.Create(disk.New(400), api.G1)
	must(e)
	put(s, "a", 300)
	wantPages(t, s, meta.Meta{Gen: 1, Txid: 3, Root: 3, Pages: 7, List: 6}, []int{4, 5}, []int{6}, nil, []int{2})
	put(s, "b", 40)
	wantPages(t, s, meta.Meta{Gen: 1, Txid: 4, Root: 7, Pages: 10, List: 9}, []int{4, 5, 8}, []int{9}, []int{2}, []int{3, 6})
	put(s, "a", 250) // 2 is free; 3 and 6 are not yet
	wantPages(t, s, meta.Meta{Gen: 1, Txid: 5, Root: 2, Pages: 13, List: 12}, []int{10, 11, 8}, []int{12}, []int{3, 6}, []int{4, 5, 7, 9})
	put(s, "a", 5) // 3 is the root, 6 the list
	wantPages(t, s, meta.Meta{Gen: 1, Txid: 6, Root: 3, Pages: 13, List: 6}, []int{8}, []int{6}, []int{4, 5, 7, 9}, []int{2, 10, 11, 12})
	put(s, "c", 33)
	wantPages(t, s, meta.Meta{Gen: 1, Txid: 7, Root: 4, Pages: 13, List: 7}, []int{8, 5}, []int{7}, []int{2, 9, 10, 11, 12}, []int{3, 6})
}

// An extent stands in the first free run that is as long, or at the end.
func TestP174Extents(t *testing.T) {
	s, e := txn.Create(disk.New(400), api.G3)
	must(e)
	put(s, "a", 700) // root 3, value 4 to 6, list 7
	put(s, "b", 200) // root 8, value 9, list 10
	wantPages(t, s, meta.Meta{Gen: 3, Txid: 4, Root: 8, Pages: 11, List: 10}, []int{4, 5, 6, 9}, []int{10}, []int{2}, []int{3, 7})
	put(s, "a", 0) // root 2, list 11
	wantPages(t, s, meta.Meta{Gen: 3, Txid: 5, Root: 2, Pages: 12, List: 11}, []int{9}, []int{11}, []int{3, 7}, []int{4, 5, 6, 8, 10})
	put(s, "c", 500) // root 3, value at the end, list 7
	wantPages(t, s, meta.Meta{Gen: 3, Txid: 6, Root: 3, Pages: 15, List: 7}, []int{9, 12, 13, 14}, []int{7}, []int{4, 5, 6, 8, 10}, []int{2, 11})
	put(s, "d", 500) // root 4; 5 and 6 are too few, so the value stands at the end, and the list in 5
	wantPages(t, s, meta.Meta{Gen: 3, Txid: 7, Root: 4, Pages: 18, List: 5}, []int{9, 12, 13, 14, 15, 16, 17}, []int{5}, []int{2, 6, 8, 10, 11}, []int{3, 7})
}

// A commit of nothing writes a list, if there is anything to tell, and a meta.
func TestP174Nothing(t *testing.T) {
	s, e := txn.Create(disk.New(12), api.G2)
	must(e)
	for k := range 5 {
		ops := s.Pager().Disk().Ops()
		must(s.Begin())
		must(s.Commit())
		wantPages(t, s, meta.Meta{Gen: 2, Txid: 3 + k, Root: 2, Pages: 3}, nil, nil, nil, nil)
		if s.Pager().Disk().Ops() != ops+4 {
			t.Fatal("it takes more than zeros, a Sync, a meta and a Sync")
		}
	}
	s, e = txn.Create(disk.New(400), api.G2)
	must(e)
	put(s, "a", 1) // root 3, list 4
	must(s.Begin())
	must(s.Commit())
	wantPages(t, s, meta.Meta{Gen: 2, Txid: 4, Root: 3, Pages: 6, List: 5}, nil, []int{5}, []int{2}, []int{4})
	must(s.Begin())
	must(s.Commit())
	wantPages(t, s, meta.Meta{Gen: 2, Txid: 5, Root: 3, Pages: 6, List: 2}, nil, []int{2}, []int{4}, []int{5})
}

// A file that has just as much room as a commit takes, and one that has less.
func TestP174Full(t *testing.T) {
	t.Parallel()
	for g := api.G1; g <= api.G3; g++ {
		for seed := range 4 {
			script := func(limit int) *world {
				w := newWorld(t, seed, g, limit, 20, []int{5, 100, 400})
				for range 3 {
					w.begin()
					w.many()
					w.commit()
					if w.s.Busy() {
						w.getAll()
						w.commit()
						w.rollback()
					}
				}
				return w
			}
			pages := script(api.MaxDisk).m.r.M.Pages
			for limit := 12; limit <= 4*pages+4; limit += 1 + limit%3 {
				w := script(limit)
				w.is("it is full", (w.told["Commit 12"] > 0) == (limit < 4*pages))
			}
			w := script(4*pages - 1)
			w.is("it is full just ahead of that", w.told["Commit 12"] > 0)
			w.begin()
			for k := range 19 {
				w.drop(keyOf(k))
			}
			w.commit()
			w.getAll()
		}
	}
}

// dated is a file whose newest meta is of that transaction.
func dated(t *testing.T, g, txid int) *world {
	t.Helper()
	w := newWorld(t, g, g, 400, 10, []int{5, 100})
	p := pager.New(w.d)
	must(p.Format([]pager.Write{{Id: 2, B: emptyLeaf(g)}}, meta.Meta{Gen: g, Txid: txid, Root: 2, Pages: 3}))
	w.reopen(map[string]string{})
	w.m.ahead = w.m.r
	return w
}

// Transactions have numbers up to 2^31 less 1.
func TestP174LastTransaction(t *testing.T) {
	for g := api.G1; g <= api.G3; g++ {
		w := dated(t, g, math.MaxInt32-3)
		for k := range 3 {
			w.snap()
			w.begin()
			w.put("a", text(k, 100))
			w.commit()
			w.is("committed", !w.s.Busy())
		}
		w.snap()
		w.begin()
		w.put("a", "A")
		for range 2 {
			w.commit()
			w.is("refused", w.s.Busy() && w.told["Commit 92"] > 0)
		}
		w.turn(g, meta.Stable, 0, "")
		w.getAll()
		w.rollback()
		w.look()
		w.reopen(w.m.has)
		w.begin()
		w.commit()
		w.rollback()
	}
}

// stored is a store of some keys, whose file has free and held pages, and the script of one more transaction.
func stored(t *testing.T, seed int) (*world, func(w *world)) {
	t.Helper()
	g := 1 + seed%3
	w := newWorld(t, seed, g, 4000, 4+seed%7, []int{5, 33, 300})
	for k := range 2 + seed%4 {
		w.begin()
		w.put(keyOf(k), text(k, 5))
		w.many()
		w.commit()
	}
	if g < api.G3 && seed%4 > 1 {
		w.begin()
		w.turn(g, meta.Moving, api.G3, "k")
		w.commit()
	}
	w.reopen(w.m.has)
	return w, func(w *world) {
		w.begin()
		w.touch("", false)
		w.put(keyOf(seed%5), text(seed, 250))
		w.put(keyOf(1+seed%5), text(seed, 6))
		w.drop(keyOf(seed % 3))
	}
}

// copied is the same world on a disk of its own, opened anew.
func (w *world) copied() *world {
	w.t.Helper()
	c := *w
	c.d = w.d.Copy()
	c.reopen(w.m.has)
	return &c
}

// The pages are written by rising number; a commit that ends at any op has written those ahead of it, and no other ones.
func TestP174OrderOfWrites(t *testing.T) {
	for seed := range 12 {
		w, script := stored(t, seed)
		done := w.copied()
		script(done)
		ids := append([]int{meta.Slot(w.m.r.M.Txid + 1)}, toWrite(done)...)
		ops := done.d.Ops()
		done.commit()
		w.is("as many ops", done.d.Ops()-ops == len(ids)+3)
		for op := range len(ids) + 4 {
			for _, keep := range [][]bool{nil, {true}} {
				c := w.copied()
				script(c)
				c.d.Arm(op)
				e := c.s.Commit()
				c.d.Crash(keep)
				want := append(w.d.Image(), make([]byte, done.d.Size()*api.Sector)...)[:len(done.d.Image())]
				many := min(op+1, len(ids))
				if keep == nil && op <= len(ids) {
					many = 0
				}
				for k, id := range ids[:many] {
					b, e := done.d.Read(id*4, 4)
					must(e)
					if k == 0 && (op <= len(ids) || keep == nil && op < len(ids)+3) {
						b = make([]byte, api.Page)
					}
					copy(want[id*api.Page:], b)
				}
				if (e == api.OK) != (op == len(ids)+3) || e != api.OK && e != api.ErrDown {
					t.Fatal("down at op ", op, " of ", len(ids), " writes: error ", e)
				}
				if !bytes.Equal(want, c.d.Image()) {
					t.Fatal("down at op ", op, " of ", len(ids), " writes, keep ", keep, ": other bytes")
				}
			}
		}
	}
}

// toWrite is the pages that the open transaction's commit is to write.
func toWrite(w *world) []int {
	next, e := w.m.commit()
	must(e)
	return written(w.m, next)
}

// keeps is what may survive: nothing, all, each second one, and anything.
func keeps(r *rand.Rand) [][]bool {
	l := [][]bool{nil, {true}, {true, false}, {false, true}, {false, false, false, true}, {true, true, true, false}}
	for range 6 {
		var keep []bool
		for range 1 + r.IntN(60) {
			keep = append(keep, r.IntN(2) == 0)
		}
		l = append(l, keep)
	}
	return l
}

// Wherever the disk goes down in a commit, and whatever survives, the file is as it was, or as it was to be; and again, from what was opened.
func TestP177Crash(t *testing.T) {
	t.Parallel()
	r := rand.New(rand.NewPCG(17, 7))
	for seed := range 24 {
		w, script := stored(t, seed)
		told := map[bool]int{}
		for op := 0; ; op++ {
			e := api.OK
			for _, keep := range keeps(r) {
				c := w.copied()
				script(c)
				e = c.fall(op, keep)
				told[c.s.Meta().Txid > w.m.r.M.Txid]++
				if r.IntN(4) == 0 {
					script(c)
					c.fall(r.IntN(op+1), keep)
					script(c)
					c.commit()
				}
			}
			if e == api.OK {
				break
			}
		}
		if told[true] < 14 || told[false] < 30 {
			t.Fatal("both are to come up: ", told)
		}
	}
}

// fall has the disk go down at an op of a commit, if it has as many, and goes on with what survives.
func (w *world) fall(op int, keep []bool) api.Errno {
	w.t.Helper()
	next, want := w.m.commit()
	must(want)
	w.d.Arm(op)
	e := w.s.Commit()
	was := w.s
	w.is("it is dead just if the disk went down", was.Dead() == (e == api.ErrDown) && (e == api.OK || e == api.ErrDown))
	w.d.Crash(keep)
	w.is("it stays dead", was.Dead() == (e == api.ErrDown))
	s, openE := txn.Open(w.d)
	w.want("Open", openE, api.OK)
	r, lookE := check.Look(s.Pager())
	l, mapE := check.Map(s.Pager(), r)
	is := lookE == api.OK && mapE == api.OK
	switch {
	case is && sameReport(r, next.r) && samePairs(l, pairs(next.has)):
		w.m = next
	case !is || e == api.OK || !sameReport(r, w.m.r) || !samePairs(l, pairs(w.m.has)):
		w.t.Fatalf("%s: down at op %d, keep %v: there is %v, error %d", w.what, op, keep, r, lookE)
	}
	w.reopen(w.m.has)
	return e
}

// Each sector of the meta that comes last, and of the page of zeros that comes first, may survive, or not.
func TestP177EachSector(t *testing.T) {
	t.Parallel()
	for seed := range 3 {
		w, script := stored(t, seed)
		c := w.copied()
		script(c)
		many := len(toWrite(c))
		for bits := range 64 {
			var keep []bool
			for k := range 6 {
				keep = append(keep, bits>>k&1 == 1)
			}
			for _, op := range []int{0, 1, many, many + 1, many + 2, many + 3} {
				c := w.copied()
				script(c)
				c.fall(op, keep)
			}
		}
	}
}

// A store is dead once its disk was down, whoever brought it down, and stays so.
func TestP177Dead(t *testing.T) {
	for _, busy := range []bool{false, true} {
		w := newWorld(t, 1, api.G2, 400, 10, []int{5, 100})
		w.begin()
		w.put("a", "A")
		w.commit()
		w.snap()
		w.snap()
		closed, e := w.s.Snap()
		must(e)
		must(closed.Close())
		if busy {
			w.begin()
			w.put("b", "B")
		}
		down(w.d)
		snaps := append(w.snaps, closed)
		if !w.s.Dead() {
			t.Fatal("its disk is down")
		}
		wantDead(t, "down", w.s, snaps...)
		w.d.Crash([]bool{true})
		wantDead(t, "up again", w.s, snaps...)
		if w.s.Busy() != busy {
			t.Fatal("Busy has changed")
		}
		was := w.s
		w.reopen(w.m.has)
		w.begin()
		w.put("c", "C")
		w.commit()
		wantDead(t, "another store is open", was, snaps...)
	}
}
