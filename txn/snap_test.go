package txn_test

import (
	"bytes"
	"fmt"
	"slices"
	"testing"

	"regauge/api"
	"regauge/check"
	"regauge/disk"
	"regauge/meta"
	"regauge/over"
	"regauge/run"
	"regauge/txn"
)

func wantSnap(t *testing.T, what string, n *txn.Snap, m meta.Meta, has map[string]string) {
	t.Helper()
	l, e := n.All()
	if e != api.OK || !samePairs(l, pairs(has)) || !meta.Same(n.Meta(), m) {
		t.Fatalf("%s: the snapshot has %v, error %d; want %v, %v", what, l, e, has, m)
	}
	for _, key := range append(sorted(has), "", "\x00", "zzz") {
		b, is, e := n.Get([]byte(key))
		if value, want := has[key]; e != api.OK || is != want || string(b) != value {
			t.Fatalf("%s: the snapshot has %q of %q, %v, error %d", what, b, key, is, e)
		}
	}
}

// A snapshot is of the newest state, whatever a transaction is about to do, and stays so.
func TestP175Snap(t *testing.T) {
	for g := api.G1; g <= api.G3; g++ {
		s, e := txn.Create(disk.New(4000), g)
		must(e)
		first, e := s.Snap()
		must(e)
		none := s.Meta()
		wantSnap(t, "of no keys", first, none, nil)
		must(s.Begin())
		must(s.Put([]byte("a"), []byte("A")))
		must(s.Put([]byte("b"), []byte(text(1, 300))))
		early, e := s.Snap()
		must(e)
		wantSnap(t, "of a state to which nothing was put yet", early, none, nil)
		must(s.Commit())
		both := map[string]string{"a": "A", "b": text(1, 300)}
		m := s.Meta()
		second, e := s.Snap()
		must(e)
		must(s.Begin())
		_, e = s.Drop([]byte("a"))
		must(e)
		wantSnap(t, "of a state from which nothing is dropped yet", second, m, both)
		must(s.Rollback())
		for k := range 20 {
			put(s, "b", 30+k)
			put(s, string(rune('c'+k)), 20*k)
			wantSnap(t, "the first", first, none, nil)
			wantSnap(t, "the early one", early, none, nil)
			wantSnap(t, "the second", second, m, both)
			look(t, s)
		}
		must(first.Close())
		wantSnap(t, "of which another one is closed", early, none, nil)
		must(early.Close())
		wantSnap(t, "ahead of which all are closed", second, m, both)
	}
}

// A snapshot stays through a move to another generation.
func TestP175SnapOfAMove(t *testing.T) {
	w := moved(t, api.G1, api.G3, false)
	w.snap()
	w.sweep()
	w.begin()
	w.turn(api.G3, meta.Stable, 0, "")
	w.commit()
	w.snap()
	for range 5 {
		w.begin()
		w.many()
		w.commit()
	}
	w.is("one is of each generation", w.snaps[0].Meta().Gen == api.G1 && w.snaps[1].Meta().Gen == api.G3)
	for k, n := range w.snaps {
		wantSnap(t, "behind the move", n, w.m.snaps[k].r.M, w.m.snaps[k].has)
	}
}

// freed is whether any of these pages may be taken by the next transaction but one, as the file tells it.
func freed(t *testing.T, s *txn.Store, ids []int) bool {
	t.Helper()
	for k := range 3 {
		put(s, "zz", k)
	}
	must(s.Begin())
	for k := range 40 {
		must(s.Put([]byte(fmt.Sprint("z", k)), []byte(text(k, 300))))
	}
	must(s.Commit())
	r := look(t, s)
	return slices.ContainsFunc(ids, func(id int) bool { return slices.Contains(used(r), id) })
}

// Pages of a snapshot are taken again as soon as all that have them are closed, and not ahead of it.
func TestP175Close(t *testing.T) {
	for g := api.G1; g <= api.G3; g++ {
		s, e := txn.Create(disk.New(40000), g)
		must(e)
		put(s, "a", 300)
		r := look(t, s)
		ids := slices.Concat(r.Tree.Refs, r.Over)
		first, e := s.Snap()
		must(e)
		second, e := s.Snap()
		must(e)
		put(s, "a", 30)
		third, e := s.Snap()
		must(e)
		if freed(t, s, ids) {
			t.Fatal("pages of open snapshots are taken")
		}
		must(second.Close())
		if freed(t, s, ids) {
			t.Fatal("pages of an open snapshot are taken")
		}
		must(third.Close())
		if e := second.Close(); e != api.ErrTxnState || freed(t, s, ids) {
			t.Fatal("pages of an open snapshot are taken, or error ", e)
		}
		must(first.Close())
		if !freed(t, s, ids) {
			t.Fatal("pages of closed snapshots are not taken")
		}
	}
}

// What a transaction may take is settled at Begin.
func TestP175CloseInATransaction(t *testing.T) {
	s, e := txn.Create(disk.New(400), api.G1)
	must(e)
	n, e := s.Snap()
	must(e)
	put(s, "a", 1) // gives page 2 up, which the snapshot has
	put(s, "a", 2)
	put(s, "a", 3)
	must(s.Begin())
	must(n.Close())
	must(s.Put([]byte("a"), []byte("A")))
	must(s.Commit())
	r := look(t, s)
	if !run.Has(r.S.Free, 2) {
		t.Fatal("page 2 was taken: ", r)
	}
	n, e = s.Snap()
	must(e)
	put(s, "a", 4)
	if r := look(t, s); r.M.Root != 2 {
		t.Fatal("page 2 was not taken: ", r)
	}
	must(n.Close())
}

func flip(b []byte) {
	for k := range b {
		b[k] ^= 0xff
	}
}

// What is handed in, and what is told, is the caller's own.
func TestP172Own(t *testing.T) {
	s, e := txn.Create(disk.New(4000), api.G1)
	must(e)
	must(s.Begin())
	cursor := []byte("cursor")
	must(s.Turn(api.G1, meta.Moving, api.G2, cursor))
	flip(cursor)
	has := map[string]string{"a": "A", "b": text(1, 300), "c": text(2, 33)}
	for key, value := range has {
		k, v := []byte(key), []byte(value)
		must(s.Put(k, v))
		flip(k)
		flip(v)
	}
	wantOwn := func(what string) {
		t.Helper()
		for range 2 {
			for key, value := range has {
				b, is, e := s.Get([]byte(key))
				if string(b) != value || !is || e != api.OK {
					t.Fatal(what, ": ", key, " has changed")
				}
				flip(b)
			}
		}
	}
	wantOwn("in a transaction")
	last, _, e := s.Touch(nil, false)
	must(e)
	flip(last)
	wantOwn("touched")
	must(s.Commit())
	wantOwn("committed")
	n, e := s.Snap()
	must(e)
	for range 2 {
		for _, m := range []meta.Meta{s.Meta(), n.Meta()} {
			if string(m.Cursor) != "cursor" {
				t.Fatal("the cursor has changed: ", m)
			}
			flip(m.Cursor)
		}
		l, e := n.All()
		if e != api.OK || !samePairs(l, pairs(has)) {
			t.Fatal("the snapshot has changed")
		}
		for _, x := range l {
			flip(x.Key)
			flip(x.Value)
			_, _ = append(x.Key, 1), append(x.Value, 1)
		}
		b, _, _ := n.Get([]byte("b"))
		flip(b)
	}
	look(t, s)
}

// spoil has another byte stand in a page, and tells what stood there.
func (w *world) spoil(id int) []byte {
	b, e := w.d.Read(id*4, 4)
	must(e)
	c := slices.Clone(b)
	c[3] ^= 1
	w.write(id, c)
	return b
}

func (w *world) write(id int, b []byte) {
	must(w.d.Write(id*4, b))
	must(w.d.Sync())
}

// A page that is spoilt under a store is told by each call that reads it; none of them has changed anything.
func TestP172Spoilt(t *testing.T) {
	told := map[api.Errno]int{}
	for seed := range 6 {
		g := 1 + seed%3
		w := newWorld(t, seed, g, 4000, 30, []int{5, 100, 300})
		w.begin()
		for k := range 30 {
			w.put(keyOf(k), w.value())
		}
		w.commit()
		whole := w
		for _, id := range slices.Concat(w.m.r.Tree.Refs, w.m.r.Over) {
			w := whole.copied()
			w.snap()
			w.begin()
			if g < api.G3 {
				w.turn(g, meta.Moving, api.G3, "")
			}
			b := w.spoil(id)
			l, e := w.snaps[0].All()
			w.is("a snapshot's All", l == nil && e == api.ErrTxnCorrupt)
			for _, key := range sorted(w.m.has) {
				told[w.getSpoilt(key)]++
			}
			w.write(id, b)
			w.changeSpoilt(id, told)
			w.getAll()
			w.commit()
			w.read()
		}
	}
	if len(told) != 2 || told[api.OK] < 100 || told[api.ErrTxnCorrupt] < 100 {
		t.Fatal("too much alike: ", told)
	}
}

// getSpoilt asks the store and a snapshot, which read the same pages.
func (w *world) getSpoilt(key string) api.Errno {
	w.t.Helper()
	b, is, e := w.s.Get([]byte(key))
	c, was, snapE := w.snaps[0].Get([]byte(key))
	if e == api.OK {
		w.is("Get of "+key, is && string(b) == w.m.has[key])
	} else {
		w.is(fmt.Sprint("Get of ", key, " tells ", e), e == api.ErrTxnCorrupt && !is && b == nil)
	}
	w.is("a snapshot's Get of "+key, e == snapE && is == was && bytes.Equal(b, c))
	return e
}

// changeSpoilt tries all calls that change something, each while a page is spoilt: the model has those that tell no error.
func (w *world) changeSpoilt(id int, told map[api.Errno]int) {
	w.t.Helper()
	for k, key := range sorted(w.m.has) {
		b := w.spoil(id)
		value := text(k, 10*k)
		e, same := api.OK, func() bool { return true }
		switch k % 3 {
		case 0:
			e = w.s.Put([]byte(key), []byte(value))
			same = func() bool { return w.m.put(key, value) == api.OK }
		case 1:
			is, dropE := w.s.Drop([]byte(key))
			e = dropE
			same = func() bool {
				want, _ := w.m.drop(key)
				return is == want
			}
			w.is("Drop", is == (e == api.OK))
		case 2:
			last, is, touchE := w.s.Touch([]byte(key), false)
			e = touchE
			same = func() bool {
				want, _, _ := w.m.touch(key, false)
				return string(last) == want
			}
			w.is("Touch", is == (e == api.OK) && (is || last == nil))
		}
		w.write(id, b)
		told[e]++
		w.is(fmt.Sprint("call ", k%3, " of ", key, " tells ", e), e == api.ErrTxnCorrupt || e == api.OK && same())
	}
}

// wantRefused holds a commit that is refused, and changes nothing.
func (w *world) wantRefused(e api.Errno) {
	w.t.Helper()
	ops := w.d.Ops()
	w.want("Commit", w.s.Commit(), e)
	w.is("something was written, or has changed", w.d.Ops() == ops && w.s.Busy() && !w.s.Dead())
}

// What a value that can't be read stood on can't be given up: the commit is refused, and nothing has changed.
func TestP174Spoilt(t *testing.T) {
	for g := api.G1; g <= api.G3; g++ {
		w := newWorld(t, g, g, 4000, 10, nil)
		w.begin()
		w.put("a", text(1, 300))
		w.put("b", text(2, 300))
		w.put("c", text(3, 300))
		w.commit()
		w.begin()
		w.drop("a")
		w.drop("b")
		w.put("d", text(4, 300))
		for _, id := range append(w.m.r.Tree.Refs, w.m.r.Over[:4]...) {
			b := w.spoil(id)
			w.wantRefused(api.ErrTxnCorrupt)
			w.write(id, b)
		}
		w.get("d")
		w.commit()
		w.is("committed", !w.s.Busy())
	}
}

// A value that was changed under a store, so that it stands on a page that is held, can't be given up.
func TestP174Twice(t *testing.T) {
	w := newWorld(t, 1, api.G1, 4000, 10, nil)
	w.begin()
	w.put("a", text(1, 300))
	w.commit()
	was := w.m.r.Over
	l, e := over.Encode(api.G1, []byte(text(1, 300)), []int{was[0], 2})
	must(e)
	b, e := w.d.Read(was[0]*4, 4)
	must(e)
	c, e := w.d.Read(2*4, 4)
	must(e)
	w.begin()
	w.drop("a")
	w.write(was[0], l[0])
	w.write(2, l[1])
	w.wantRefused(api.ErrPoolTwice)
	w.write(was[0], b)
	w.write(2, c)
	w.commit()
	w.is("committed", !w.s.Busy())
}

// A leaf can't be made anew without its values.
func TestP173TouchSpoilt(t *testing.T) {
	for g := api.G1; g <= api.G3; g++ {
		w := newWorld(t, g, g, 4000, 10, nil)
		w.begin()
		w.put("a", "A")
		w.put("b", text(2, 300))
		w.put("c", text(3, 300))
		w.commit()
		w.begin()
		for _, id := range used(w.m.r) {
			if slices.Contains(w.m.r.List, id) {
				continue
			}
			b := w.spoil(id)
			last, is, e := w.s.Touch([]byte("a"), true)
			w.is(fmt.Sprint("Touch tells error ", e), last == nil && !is && e == api.ErrTxnCorrupt)
			w.write(id, b)
		}
		w.turn(g, meta.Stable, 0, "")
		w.touch("a", true)
		w.commit()
	}
}

// The end of a move is refused where it can't be told whether all is swept.
func TestP173TurnSpoilt(t *testing.T) {
	w := moved(t, api.G1, api.G2, true)
	b := w.spoil(w.m.r.Tree.Refs[0])
	w.want("Begin", w.s.Begin(), w.m.begin())
	w.want("Turn", w.s.Turn(api.G2, meta.Stable, 0, nil), api.ErrPhase)
	w.want("Turn", w.s.Turn(api.G1, meta.Moving, api.G2, []byte("c")), w.m.turn(api.G1, meta.Moving, api.G2, []byte("c")))
	w.write(w.m.r.Tree.Refs[0], b)
	w.turn(api.G2, meta.Stable, 0, "")
	w.commit()
	r, e := check.Look(w.s.Pager())
	w.is("it has ended", e == api.OK && r.M.Gen == api.G2 && r.M.Phase == meta.Stable)
}
