package phase_test

import (
	"bytes"
	"fmt"
	"maps"
	"math"
	"slices"
	"testing"

	"regauge/api"
	"regauge/check"
	"regauge/crc"
	"regauge/disk"
	"regauge/meta"
	"regauge/phase"
	"regauge/txn"
)

func TestP181Of(t *testing.T) {
	for g := api.G1; g <= api.G3; g++ {
		w := newWorld(t, 1, g, 400)
		x, e := phase.Of(w.s)
		if e != api.OK || !sameState(x, phase.State{Gen: g, Pages: 3}) {
			t.Fatal("a new store is ", x, e)
		}
		for seed := range 12 {
			w := filled(t, seed, g, 2+seed*4)
			if x, e := phase.Of(w.s); e != api.OK || x.Gen != g || x.Target != 0 || x.Moving || x.Old != 0 || len(x.Cursor) > 0 {
				t.Fatal("a store that is Stable is ", x, e)
			}
			w.look()
		}
	}
}

// Old falls from step to step, and is 0 at the end; the cursor is that of the meta.
func TestP181OfAMove(t *testing.T) {
	falls := 0
	each(func(g, target int) {
		for seed := range 6 {
			w := moving(t, seed, g, target, 60, false)
			ahead := w.look().old()
			w.is("most is old at first", ahead > 4)
			for w.step() {
				f := w.look()
				x, e := phase.Of(w.s)
				w.is("it moves", e == api.OK && x.Gen == g && x.Target == target && x.Moving && bytes.Equal(x.Cursor, f.m.Cursor) && len(x.Cursor) > 0)
				w.is("Old rises", x.Old <= ahead)
				if x.Old < ahead {
					falls++
				}
				ahead = x.Old
			}
			w.is("nothing is old at the end", ahead == 0)
		}
	})
	if falls < 60 {
		t.Fatal("there are too few steps: ", falls)
	}
}

// What is put while a store moves is of its target's generation, whatever the other pages are.
func TestP181OfWrites(t *testing.T) {
	each(func(g, target int) {
		w := moving(t, 3, g, target, 60, false)
		for range 8 {
			ahead := w.look()
			w.write(3)
			f := w.look()
			for _, id := range f.inUse() {
				was := ahead.gens[id] == 0 || !bytes.Equal(ahead.page(id), f.page(id))
				w.is(fmt.Sprint("page ", id, " is written in generation ", f.gens[id]), !was || f.gens[id] == target)
			}
		}
	})
}

// A transaction that is open is not told of.
func TestP181OfBusy(t *testing.T) {
	w := moving(t, 1, api.G1, api.G3, 40, false)
	want := w.look().state()
	must(w.s.Begin())
	w.put("a", text(1, 1000))
	must(w.s.Turn(api.G1, meta.Moving, api.G3, []byte("b")))
	w.unchanged("Of", func() {
		if x, e := phase.Of(w.s); e != api.OK || !sameState(x, want) {
			t.Fatal("with an open transaction Of tells ", x, e)
		}
	})
	must(w.s.Commit())
	w.look()
	x, e := phase.Of(w.s)
	w.is(fmt.Sprint("committed: ", x), e == api.OK && string(x.Cursor) == "b" && !sameState(x, want))
}

func TestP181OfIsTheCallersOwn(t *testing.T) {
	w := moving(t, 1, api.G1, api.G2, 40, false)
	w.step()
	x, e := phase.Of(w.s)
	must(e)
	w.is("there is a cursor", len(x.Cursor) > 0)
	clear(x.Cursor)
	w.look()
}

// wantOf holds an error, beside which there is nothing else.
func (w *world) wantOf(what string, want api.Errno) {
	w.t.Helper()
	w.unchanged("Of", func() {
		if x, e := phase.Of(w.s); e != want || !zeroState(x) {
			w.t.Fatal(w.what, ": ", what, ": Of tells ", x, e, ", want ", want)
		}
	})
}

// down has the disk go down by an op that isn't the store's.
func (w *world) down() {
	w.d.Arm(0)
	w.d.Sync()
}

func TestP181OfRefuses(t *testing.T) {
	if x, e := phase.Of(nil); e != api.ErrArg || !zeroState(x) {
		t.Fatal("of no store Of tells ", x, e)
	}
	for _, swept := range []bool{false, true} {
		w := moving(t, 1, api.G1, api.G2, 40, swept)
		f := w.look()
		for _, id := range f.inUse() {
			c := w.copied()
			c.spoil(id)
			c.wantOf(fmt.Sprint("page ", id, " is spoilt"), api.ErrTxnCorrupt)
			c.spoil(id)
			c.look()
		}
		c := w.copied()
		c.unknown()
		c.wantOf("of no known generation", api.ErrTxnGen)
		c.down()
		c.wantOf("of no known generation, and down", api.ErrDown)
	}
}

// spoil changes a byte of a page; so it also changes it back.
func (w *world) spoil(id int) {
	b, e := w.d.Read(4*id, 4)
	must(e)
	b[1] ^= 8
	must(w.d.Write(4*id, b))
	must(w.d.Sync())
}

// unknown has both metas be of a generation that there is not.
func (w *world) unknown() {
	for id := range 2 {
		b, e := w.d.Read(4*id, 4)
		must(e)
		b[4] = 4
		must(w.d.Write(4*id, crc.Seal(b, 252)))
	}
	must(w.d.Sync())
}

// All calls but Of and First ask first whether the store is there, and up, and idle.
func TestP18Dead(t *testing.T) {
	for _, m := range []meta.Meta{{Gen: api.G1, Txid: 5}, {Gen: api.G1, Txid: 5, Phase: meta.Moving, Target: api.G2}} {
		for _, busy := range []bool{false, true} {
			w := dated(t, m)
			if busy {
				must(w.s.Begin())
			}
			w.down()
			for _, up := range []bool{false, true} {
				if up {
					w.d.Crash(nil)
				}
				w.is("it is dead", w.s.Dead())
				w.wantOf("dead", api.ErrDown)
				w.wantNone("dead", api.ErrDown)
			}
		}
	}
}

// wantNone holds that no call but Of does anything but tell an error.
func (w *world) wantNone(what string, want api.Errno) {
	w.t.Helper()
	w.unchanged(what, func() {
		w.t.Helper()
		for _, target := range []int{math.MinInt, -1, 0, 1, 2, 3, 4, math.MaxInt} {
			w.want(what+": Start", phase.Start(w.s, target), want)
		}
		w.want(what+": Finish", phase.Finish(w.s), want)
		if want != api.ErrTxnState || !w.s.Busy() {
			last, e := phase.First(w.s)
			w.is(fmt.Sprint(what, ": First tells ", last, e), last == nil && e == want)
		}
	})
}

func TestP18NoStore(t *testing.T) {
	if last, e := phase.First(nil); e != api.ErrArg || last != nil {
		t.Error("First: ", last, e)
	}
	for _, target := range []int{math.MinInt, 0, 1, 2, 3, math.MaxInt} {
		if e := phase.Start(nil, target); e != api.ErrArg {
			t.Error("Start: ", e)
		}
	}
	if e := phase.Finish(nil); e != api.ErrArg {
		t.Error("Finish: ", e)
	}
}

// byHand is a transaction of these calls.
func byHand(s *txn.Store, calls ...func()) {
	must(s.Begin())
	for _, call := range calls {
		call()
	}
	must(s.Commit())
}

// touchFirst is what First is to do.
func touchFirst(s *txn.Store) []byte {
	last, is, e := s.Touch(nil, false)
	must(e)
	if !is {
		must(s.Put([]byte{0}, nil))
		_, e := s.Drop([]byte{0})
		must(e)
	}
	return last
}

// sameAs holds that two worlds have the same file, written by as many ops.
func (w *world) sameAs(what string, v *world) {
	w.t.Helper()
	w.is(what+": another file than by hand", bytes.Equal(w.d.Image(), v.d.Image()) && w.d.Ops() == v.d.Ops() && w.d.Pending() == v.d.Pending())
	w.is(what+": another store than by hand", meta.Same(w.s.Meta(), v.s.Meta()) && w.s.Busy() == v.s.Busy() && w.s.Dead() == v.s.Dead())
}

// samples is stores by chance: without keys, of one leaf, and of more.
func samples(t *testing.T, call func(w *world)) {
	t.Helper()
	for g := api.G1; g <= api.G3; g++ {
		for seed, keys := range []int{0, 1, 1, 2, 3, 5, 9, 20, 60, 120} {
			call(filled(t, seed, g, keys))
		}
	}
}

func TestP181First(t *testing.T) {
	leaves := map[bool]int{}
	samples(t, func(w *world) {
		f := w.look()
		leaves[len(f.keys) > 0]++
		a, b := w.copied(), w.copied()
		must(a.s.Begin())
		last, e := phase.First(a.s)
		w.is("what is told", e == api.OK && bytes.Equal(last, f.first) && (last == nil) == (len(f.keys) == 0))
		clear(last)
		w.is("nothing is written, and the transaction is open", a.s.Busy() && bytes.Equal(a.d.Image(), w.d.Image()))
		must(a.s.Commit())
		byHand(b.s, func() { touchFirst(b.s) })
		a.sameAs("First", b)
		now := a.look()
		w.is("the root is made anew", now.m.Root != f.m.Root && f.gens[now.m.Root] == 0)
		w.is("the first leaf is another one", bytes.Equal(now.first, f.first))
	})
	if leaves[true] < 10 || leaves[false] < 4 {
		t.Fatal("too much alike: ", leaves)
	}
}

// First is of what the open transaction has made of the newest state.
func TestP181FirstOfADraft(t *testing.T) {
	first := func(w *world, want string) {
		t.Helper()
		last, e := phase.First(w.s)
		w.is(fmt.Sprintf("First tells %q, %d, want %q", last, e, want), e == api.OK && string(last) == want)
	}
	for g := api.G1; g <= api.G3; g++ {
		w := newWorld(t, 1, g, 4000)
		must(w.s.Begin())
		first(w, "")
		w.put("b", "B")
		first(w, "b")
		w.put("c", text(1, 300))
		first(w, "c")
		must(w.s.Rollback())
		w.has = map[string]string{}
		w.look()
		must(w.s.Begin())
		w.put("b", "B")
		w.put("\x00", "zero")
		must(w.s.Commit())
		w.look()
		must(w.s.Begin())
		first(w, "b")
		for key := range w.has {
			_, e := w.s.Drop([]byte(key))
			must(e)
		}
		first(w, "")
		first(w, "")
		if _, is, e := w.s.Get([]byte{0}); is || e != api.OK {
			t.Fatal("First has left a key: ", e)
		}
		w.put("\x00", "")
		first(w, "\x00")
		must(w.s.Commit())
		w.has = map[string]string{"\x00": ""}
		w.look()
	}
}

// In a transaction that begins to move, the first leaf's values are moved, too.
func TestP181FirstMoves(t *testing.T) {
	each(func(g, target int) {
		w := newWorld(t, 1, g, 4000)
		must(w.s.Begin())
		for k := range 3 {
			w.put(keyOf(k), text(k, 100*k))
		}
		must(w.s.Commit())
		must(w.s.Begin())
		must(w.s.Turn(g, meta.Moving, target, nil))
		last, e := phase.First(w.s)
		w.is("First", e == api.OK && string(last) == keyOf(2))
		must(w.s.Commit())
		w.is("nothing is old", w.look().old() == 0)
	})
}

func TestP181FirstRefuses(t *testing.T) {
	samples(t, func(w *world) {
		w.unchanged("First", func() {
			last, e := phase.First(w.s)
			w.is("there is no transaction", e == api.ErrTxnState && last == nil)
		})
		root := w.s.Meta().Root
		must(w.s.Begin())
		w.spoil(root)
		w.unchanged("First", func() {
			last, e := phase.First(w.s)
			w.is(fmt.Sprint("the root is spoilt: First tells ", last, e), e == api.ErrTxnCorrupt && last == nil)
		})
		w.spoil(root)
		must(w.s.Commit())
		w.is("nothing has changed", w.look().m.Root == root)
		must(w.s.Begin())
		w.down()
		w.wantNone("down", api.ErrDown)
	})
}

func TestP182Start(t *testing.T) {
	samples(t, func(w *world) {
		g := w.s.Meta().Gen
		for target := g + 1; target <= api.G3; target++ {
			a, b := w.copied(), w.copied()
			a.want("Start", phase.Start(a.s, target), api.OK)
			byHand(b.s, func() { must(b.s.Turn(g, meta.Moving, target, nil)) }, func() { touchFirst(b.s) })
			a.sameAs("Start", b)
			f := a.look()
			m, ahead := f.m, w.s.Meta()
			a.is(fmt.Sprint("the meta is ", m), m.Gen == g && m.Phase == meta.Moving && m.Target == target && len(m.Cursor) == 0 && m.Txid == ahead.Txid+1)
			a.is("the root is of the target's generation", f.gens[m.Root] == target)
			a.is("all is durable, and no transaction is open", a.d.Pending() == 0 && !a.s.Busy())
			a.is("both phases", f.metas() == [2][2]int{{g, meta.Moving}, {g, meta.Stable}})
			a.unchanged("a second Start", func() {
				for n := range 6 {
					a.want("a second Start", phase.Start(a.s, n), api.ErrPhase)
				}
			})
			a.loaded(a.d).look()
		}
	})
}

// Of a store that is Stable each number is refused but those of greater generations.
func TestP182Targets(t *testing.T) {
	for g := api.G1; g <= api.G3; g++ {
		for target := -300; target < 600; target++ {
			w := dated(t, meta.Meta{Gen: g, Txid: 5})
			w.wantStart(target, target > g && target <= api.G3)
		}
		for _, target := range []int{math.MinInt, math.MinInt32, 1<<32 + 2, 1<<32 + 3, math.MaxInt32, math.MaxInt} {
			dated(t, meta.Meta{Gen: g, Txid: 5}).wantStart(target, false)
		}
	}
}

func (w *world) wantStart(target int, may bool) {
	w.t.Helper()
	if may {
		w.want("Start", phase.Start(w.s, target), api.OK)
		w.look()
		return
	}
	w.unchanged("Start", func() { w.want(fmt.Sprint("Start to ", target), phase.Start(w.s, target), api.ErrPhase) })
}

// A transaction that is open stays so, whatever Start, or Finish, would tell else.
func TestP18Busy(t *testing.T) {
	for _, m := range []meta.Meta{{Gen: api.G1, Txid: 5}, {Gen: api.G3, Txid: 5}, {Gen: api.G1, Txid: 5, Phase: meta.Moving, Target: api.G2}} {
		w := dated(t, m)
		must(w.s.Begin())
		w.put("a", "A")
		w.wantNone("busy", api.ErrTxnState)
		must(w.s.Commit())
		w.look()
	}
}

// With an error the transaction is taken back.
func (w *world) wantTakenBack(what string, want api.Errno, call func() api.Errno) {
	w.t.Helper()
	f := w.look()
	must(w.s.Begin())
	must(w.s.Rollback())
	w.unchanged(what, func() { w.want(what, call(), want) })
	w.is(what+": a transaction is open", !w.s.Busy())
	now := w.look()
	w.is(what+": other pages", maps.Equal(f.gens, now.gens))
}

// Start spoils nothing of a file whose first leaf it can't read.
func TestP182Spoilt(t *testing.T) {
	samples(t, func(w *world) {
		if w.s.Meta().Gen == api.G3 {
			return
		}
		root := w.s.Meta().Root
		w.spoil(root)
		for range 2 {
			w.unchanged("Start", func() { w.want("the root is spoilt: Start", phase.Start(w.s, api.G3), api.ErrTxnCorrupt) })
			w.is("a transaction is open", !w.s.Busy())
		}
		w.spoil(root)
		w.look()
		w.want("Start", phase.Start(w.s, api.G3), api.OK)
		w.look()
	})
}

// Of a file of one leaf Start reads all of the tree, and all values.
func TestP182SpoiltValue(t *testing.T) {
	each(func(g, target int) {
		w := newWorld(t, 1, g, 4000)
		must(w.s.Begin())
		for k := range 3 {
			w.put(keyOf(k), text(k, 100+k*140))
		}
		must(w.s.Commit())
		r, e := check.Look(w.s.Pager())
		must(e)
		w.is("there are values in pages of their own", len(r.Over) > 3)
		for _, id := range append(r.Over, r.Tree.Refs...) {
			w.spoil(id)
			what := fmt.Sprint("page ", id, " is spoilt: ")
			w.unchanged("Start", func() { w.want(what+"Start", phase.Start(w.s, target), api.ErrTxnCorrupt) })
			w.is(what+"a transaction is open", !w.s.Busy())
			must(w.s.Begin())
			must(w.s.Turn(g, meta.Moving, target, nil))
			last, e := phase.First(w.s)
			w.is(what+"First", last == nil && e == api.ErrTxnCorrupt)
			w.spoil(id)
			must(w.s.Rollback())
		}
		w.look()
		w.want("Start", phase.Start(w.s, target), api.OK)
		w.want("Finish", phase.Finish(w.s), api.OK)
		w.look().wantEnded(w.what, target, w.has)
	})
}

// A disk that has just the room that Start takes, and one that has less.
func TestP182Full(t *testing.T) {
	full := 0
	samples(t, func(w *world) {
		g := w.s.Meta().Gen
		for target := g + 1; target <= api.G3; target++ {
			c := w.copied()
			must(phase.Start(c.s, target))
			for pages := w.s.Meta().Pages; pages < c.s.Meta().Pages+2; pages++ {
				a := w.cut(pages)
				start := func() api.Errno { return phase.Start(a.s, target) }
				if pages >= c.s.Meta().Pages {
					a.want("Start", start(), api.OK)
					a.is("the same file", bytes.Equal(a.d.Image(), c.d.Image()))
					continue
				}
				full++
				a.wantTakenBack("Start", api.ErrFull, start)
				a.wantTakenBack("Start", api.ErrFull, start)
				a.is("the file is as it was", bytes.Equal(a.d.Image(), w.d.Image()))
			}
		}
	})
	if full < 60 {
		t.Fatal("too few disks are full: ", full)
	}
}

// Transactions have numbers up to 2^31 less 1: at the end no move begins any more.
func TestP182LastTransaction(t *testing.T) {
	for g := api.G1; g < api.G3; g++ {
		w := dated(t, meta.Meta{Gen: g, Txid: math.MaxInt32 - 1})
		w.want("Start", phase.Start(w.s, api.G3), api.OK)
		w.look()
		w = dated(t, meta.Meta{Gen: g, Txid: math.MaxInt32})
		w.wantTakenBack("Start", api.ErrMetaForm, func() api.Errno { return phase.Start(w.s, api.G3) })
	}
}

// Snapshots stay what they were, through all of a move.
func TestP182Snapshots(t *testing.T) {
	each(func(g, target int) {
		w := filled(t, 4, g, 40)
		var snaps []*txn.Snap
		var has []map[string]string
		snap := func() {
			n, e := w.s.Snap()
			must(e)
			snaps, has = append(snaps, n), append(has, maps.Clone(w.has))
		}
		snap()
		w.want("Start", phase.Start(w.s, target), api.OK)
		snap()
		w.write(20)
		w.sweep()
		snap()
		w.want("Finish", phase.Finish(w.s), api.OK)
		snap()
		w.write(40)
		for k, n := range snaps {
			l, e := n.All()
			w.is("a snapshot", e == api.OK && len(l) == len(has[k]))
			for _, x := range l {
				w.is("a snapshot's value", has[k][string(x.Key)] == string(x.Value))
			}
		}
		w.look().wantEnded(w.what, target, w.has)
	})
}

func TestP183Finish(t *testing.T) {
	each(func(g, target int) {
		for seed, keys := range []int{0, 1, 3, 9, 20, 60, 120} {
			w := moving(t, seed, g, target, keys, true)
			ahead := w.look()
			a, b := w.copied(), w.copied()
			a.want("Finish", phase.Finish(a.s), api.OK)
			byHand(b.s, func() { must(b.s.Turn(target, meta.Stable, 0, nil)) })
			byHand(b.s)
			a.sameAs("Finish", b)
			f := a.look()
			f.wantEnded(w.what, target, w.has)
			a.is(fmt.Sprint("the meta is ", f.m), f.m.Txid == ahead.m.Txid+2 && f.m.Root == ahead.m.Root)
			a.is("all is durable, and no transaction is open", a.d.Pending() == 0 && !a.s.Busy())
			a.unchanged("a second Finish", func() { a.want("a second Finish", phase.Finish(a.s), api.ErrPhase) })
			c := a.loaded(a.d)
			c.look()
			c.write(keys)
			c.look()
		}
	})
}

// A move of a store that has one leaf, or no key, is Start and Finish alone.
func TestP183AtOnce(t *testing.T) {
	each(func(g, target int) {
		for keys := range 4 {
			w := newWorld(t, keys, g, 4000)
			must(w.s.Begin())
			for k := range keys {
				w.put(keyOf(k), text(k, 90*k))
			}
			must(w.s.Commit())
			w.want("Start", phase.Start(w.s, target), api.OK)
			w.want("Finish", phase.Finish(w.s), api.OK)
			w.look().wantEnded(w.what, target, w.has)
		}
	})
}

// Finish is refused as long as anything is old, be it a node, or a value.
func TestP183TooEarly(t *testing.T) {
	t.Parallel()
	refused := 0
	each(func(g, target int) {
		for seed := range 4 {
			w := moving(t, seed, g, target, 50, false)
			for {
				old := w.look().old()
				c := w.copied()
				if old == 0 {
					c.want("Finish", phase.Finish(c.s), api.OK)
				} else {
					c.wantTakenBack("Finish", api.ErrPhase, func() api.Errno { return phase.Finish(c.s) })
					refused++
				}
				if !w.step() {
					w.is("nothing is old at the end", old == 0)
					break
				}
			}
		}
	})
	if refused < 40 {
		t.Fatal("it is hardly ever too early: ", refused)
	}
}

// Of a leaf that is new, but has a value that is old, Finish is refused, too.
func TestP183OldValue(t *testing.T) {
	each(func(g, target int) {
		w := newWorld(t, 1, g, 4000)
		for _, key := range []string{"a", "b"} {
			must(w.s.Begin())
			w.put(key, text(1, 100))
			must(w.s.Commit())
		}
		must(w.s.Begin())
		must(w.s.Turn(g, meta.Moving, target, nil))
		w.put("b", text(2, 100))
		must(w.s.Commit())
		w.is("one page is old", w.look().old() == 1)
		w.wantTakenBack("Finish", api.ErrPhase, func() api.Errno { return phase.Finish(w.s) })
		w.step()
		w.want("Finish", phase.Finish(w.s), api.OK)
		w.look().wantEnded(w.what, target, w.has)
	})
}

// Of a store that is Stable Finish is refused, whatever its file has become.
func TestP183Stable(t *testing.T) {
	samples(t, func(w *world) {
		w.wantTakenBack("Finish", api.ErrPhase, func() api.Errno { return phase.Finish(w.s) })
		w.spoil(w.s.Meta().Root)
		w.unchanged("Finish", func() { w.want("Finish", phase.Finish(w.s), api.ErrPhase) })
	})
}

// Finish ends no move of a file that is not as it should be.
func TestP183Spoilt(t *testing.T) {
	each(func(g, target int) {
		for _, swept := range []bool{false, true} {
			w := moving(t, 2, g, target, 20, swept)
			for _, id := range w.look().inUse() {
				w.spoil(id)
				w.unchanged("Finish", func() { w.want(fmt.Sprint("page ", id, " is spoilt: Finish"), phase.Finish(w.s), api.ErrTxnCorrupt) })
				w.is("a transaction is open", !w.s.Busy())
				w.spoil(id)
			}
			c := w.copied()
			c.unknown()
			c.unchanged("Finish", func() { c.want("of no known generation: Finish", phase.Finish(c.s), api.ErrTxnGen) })
			w.sweep()
			w.want("Finish", phase.Finish(w.s), api.OK)
			w.look().wantEnded(w.what, target, w.has)
		}
	})
}

// Each of both transactions may be the one for which there is no number any more.
func TestP183LastTransaction(t *testing.T) {
	each(func(g, target int) {
		m := meta.Meta{Gen: g, Phase: meta.Moving, Target: target, Txid: math.MaxInt32 - 2}
		w := dated(t, m)
		w.want("Finish", phase.Finish(w.s), api.OK)
		w.look().wantEnded("the last one", target, w.has)
		m.Txid++
		w = dated(t, m)
		w.want("Finish", phase.Finish(w.s), api.ErrMetaForm)
		f := w.look()
		w.is(fmt.Sprint("the first one is done: ", f.m), f.metas() == [2][2]int{{target, meta.Stable}, {g, meta.Moving}} && f.m.Txid == math.MaxInt32 && !w.s.Busy())
		m.Txid++
		w = dated(t, m)
		w.wantTakenBack("Finish", api.ErrMetaForm, func() api.Errno { return phase.Finish(w.s) })
	})
}

// A move on a disk that has just so much room; a snapshot from ahead of it has each transaction take new pages.
func TestP183Full(t *testing.T) {
	told := map[string]int{}
	each(func(g, target int) {
		for seed, keys := range []int{0, 1, 2, 9, 30} {
			w := filled(t, seed, g, keys)
			script := func(c *world) {
				n, e := c.s.Snap()
				must(e, n)
				must(phase.Start(c.s, target))
				c.sweep()
			}
			wide := w.copied()
			script(wide)
			pages := []int{wide.s.Meta().Pages}
			for _, g := range [][2]int{{target, meta.Stable}, {target, meta.Stable}} {
				byHand(wide.s, func() { must(wide.s.Turn(g[0], g[1], 0, nil)) })
				pages = append(pages, wide.s.Meta().Pages)
			}
			for limit := pages[0]; limit < pages[2]+2; limit++ {
				c := w.cut(limit)
				script(c)
				told[c.finish(limit, pages)]++
			}
		}
	})
	if told["first"] < 10 || told["second"] < 10 || told["none"] < 10 {
		t.Fatal("too much alike: ", told)
	}
}

// finish is a Finish on a disk of so many pages, where as many are needed ahead of it, behind its first transaction, and behind both; it tells which one has no room.
func (w *world) finish(limit int, pages []int) string {
	w.t.Helper()
	txid := w.s.Meta().Txid
	switch {
	case limit < pages[1]:
		w.wantTakenBack("Finish", api.ErrFull, func() api.Errno { return phase.Finish(w.s) })
		return "first"
	case limit < pages[2]:
		w.want("Finish", phase.Finish(w.s), api.ErrFull)
		f := w.look()
		w.is(fmt.Sprint("the first one is done: ", f.m), f.metas()[0] == [2]int{w.s.Meta().Gen, meta.Stable} && f.metas()[1][1] == meta.Moving && f.m.Txid == txid+1 && !w.s.Busy())
		w.loaded(w.d).look()
		return "second"
	}
	w.want("Finish", phase.Finish(w.s), api.OK)
	w.look().wantEnded(w.what, w.s.Meta().Gen, w.has)
	w.is("two transactions", w.s.Meta().Txid == txid+2)
	return "none"
}

// What the document's example says.
func TestP184Example(t *testing.T) {
	s, e := txn.Create(disk.New(400), api.G1)
	must(e)
	must(phase.Start(s, api.G3))
	must(phase.Finish(s))
	if x, e := phase.Of(s); e != api.OK || !sameState(x, phase.State{Gen: api.G3, Pages: x.Pages}) {
		t.Fatal("it is ", x, e)
	}
}

// From each generation to each greater one, with writes all along: no key, and no value, is another one by the move.
func TestP184Moves(t *testing.T) {
	t.Parallel()
	for seed := range 12 {
		each(func(g, target int) {
			w := filled(t, seed, g, []int{3, 20, 70}[seed%3])
			w.want("Start", phase.Start(w.s, target), api.OK)
			f := w.look()
			w.is("the root is of the target's generation", f.gens[f.m.Root] == target)
			for n := 0; w.step(); n++ {
				if n%3 == 2 && n < 40 {
					w.write(1 + seed*3)
				}
				w.look()
			}
			w.is("nothing is old", w.look().old() == 0)
			w.want("Finish", phase.Finish(w.s), api.OK)
			w.look().wantEnded(w.what, target, w.has)
			w.write(9)
			w.look().wantEnded(w.what, target, w.has)
			if target < api.G3 {
				w.want("Start", phase.Start(w.s, api.G3), api.OK)
				w.sweep()
				w.want("Finish", phase.Finish(w.s), api.OK)
				w.loaded(w.d).look().wantEnded(w.what, api.G3, w.has)
			}
		})
	}
}

// The same calls tell the same.
func TestP184SameAgain(t *testing.T) {
	var images [][]byte
	for range 2 {
		w := filled(t, 5, api.G1, 60)
		must(phase.Start(w.s, api.G3))
		w.sweep()
		must(phase.Finish(w.s))
		images = append(images, w.d.Image())
	}
	if !slices.Equal(images[0], images[1]) {
		t.Fatal("two moves of the same file differ")
	}
}
