package txn_test

import (
	"bytes"
	"fmt"
	"math"
	"slices"
	"strings"
	"testing"

	"regauge/api"
	"regauge/check"
	"regauge/crc"
	"regauge/disk"
	"regauge/meta"
	"regauge/node"
	"regauge/page"
	"regauge/pager"
	"regauge/txn"
)

func encoded(m meta.Meta) []byte {
	b, e := meta.Encode(m)
	must(e, m)
	return b
}

func emptyLeaf(g int) []byte {
	b, e := page.Encode(g, node.Node{Leaf: true})
	must(e, g)
	return b
}

// down has a disk that is up go down.
func down(d *disk.Disk) *disk.Disk {
	d.Arm(0)
	d.Sync()
	return d
}

func TestP171Create(t *testing.T) {
	for g := api.G1; g <= api.G3; g++ {
		for _, limit := range []int{12, 13, 400, api.MaxDisk} {
			d := disk.New(limit)
			s, e := txn.Create(d, g)
			if e != api.OK || s == nil {
				t.Fatal("generation ", g, ", limit ", limit, ": error ", e)
			}
			m := meta.Meta{Gen: g, Txid: 2, Root: 2, Pages: 3}
			ahead := m
			ahead.Txid = 1
			want := slices.Concat(encoded(m), encoded(ahead), emptyLeaf(g))
			if !bytes.Equal(d.Image(), want) || d.Pending() != 0 || d.Ops() != 4 {
				t.Fatal("generation ", g, ": what was written is another file, or not durable, or took ", d.Ops(), " ops")
			}
			if !meta.Same(s.Meta(), m) || s.Pager() == nil || s.Pager().Disk() != d || s.Busy() || s.Dead() {
				t.Fatal("generation ", g, ": the store is ", s.Meta(), s.Busy(), s.Dead())
			}
			if b, is, e := s.Get([]byte("a")); b != nil || is || e != api.OK {
				t.Fatal("a new store has ", b, is, e)
			}
		}
	}
}

// A disk that has pages gets a new file in their place.
func TestP171CreateAnew(t *testing.T) {
	w := newWorld(t, 1, api.G1, 400, 30, []int{5, 100})
	w.begin()
	w.many()
	w.put("a", "A")
	w.commit()
	s, e := txn.Create(w.d, api.G2)
	if e != api.OK || s.Meta().Pages != 3 || w.d.Pending() != 0 {
		t.Fatal("error ", e)
	}
	r, e := check.Look(pager.New(w.d))
	if e != api.OK || !meta.Same(r.M, meta.Meta{Gen: api.G2, Txid: 2, Root: 2, Pages: 3}) || len(r.Tree.Items) != 0 {
		t.Fatal("the new file is ", r, e)
	}
	must(s.Begin())
	must(s.Put([]byte("b"), []byte(text(1, 500))))
	must(s.Commit())
	if r, e := check.Look(s.Pager()); e != api.OK || r.M.Pages != 8 {
		t.Fatal("behind a commit: ", r, e)
	}
}

func TestP171CreateRefuses(t *testing.T) {
	want := func(what string, d *disk.Disk, g int, want api.Errno) {
		t.Helper()
		if s, e := txn.Create(d, g); s != nil || e != want {
			t.Fatal(what, ": error ", e, ", want ", want)
		}
	}
	for _, g := range []int{math.MinInt, -1, 0, 4, 257, math.MaxInt} {
		want("no generation", disk.New(400), g, api.ErrArg)
		want("no generation, of a disk that is down", down(disk.New(400)), g, api.ErrArg)
		want("no generation, of no disk", nil, g, api.ErrArg)
	}
	for g := api.G1; g <= api.G3; g++ {
		want("no disk", nil, g, api.ErrArg)
		want("down", down(disk.New(400)), g, api.ErrDown)
		want("down, and too small", down(disk.New(0)), g, api.ErrDown)
		for _, limit := range []int{-1, 0, 8, 11} {
			d := disk.New(limit)
			want("too small", d, g, api.ErrFull)
			if d.Ops() != 0 || d.Size() != 0 {
				t.Fatal("something was written")
			}
		}
		for op := range 4 {
			d := disk.New(400)
			d.Arm(op)
			want(fmt.Sprint("down at op ", op), d, g, api.ErrDown)
		}
		d := disk.New(400)
		d.Arm(4)
		if s, e := txn.Create(d, g); s == nil || e != api.OK || s.Dead() {
			t.Fatal("there are four ops: error ", e)
		}
	}
}

func wantOpen(t *testing.T, what string, d *disk.Disk, want api.Errno) {
	t.Helper()
	s, e := txn.Open(d)
	if e != want || (s == nil) != (e != api.OK) {
		t.Fatalf("%s: Open tells %d, want %d", what, e, want)
	}
}

func TestP171Open(t *testing.T) {
	for g := api.G1; g <= api.G3; g++ {
		w := newWorld(t, g, g, 4000, 30, []int{5, 100, 400})
		for range 5 {
			w.begin()
			w.many()
			w.commit()
			w.reopen(w.m.has)
			w.getAll()
		}
		image := w.d.Image()
		limit := len(image) / api.Sector
		wantOpen(t, "just as great", disk.Load(image, limit), api.OK)
		wantOpen(t, "cut off", disk.Load(image, limit-1), api.ErrTxnCorrupt)
		wantOpen(t, "longer", disk.Load(append(slices.Clone(image), 1, 2, 3), api.MaxDisk), api.OK)
		for id := range limit / 4 {
			b := slices.Clone(image)
			b[id*api.Page+2] ^= 1
			r, e := check.Look(pager.New(disk.Load(b, limit)))
			wantOpen(t, fmt.Sprint("page ", id, " is spoilt"), disk.Load(b, limit), e)
			if slices.Contains(slices.Concat(w.m.r.Tree.Refs, w.m.r.Over, w.m.r.List), id) && e == api.OK {
				t.Fatal("page ", id, ", which is in use, is spoilt: ", r)
			}
		}
		b := slices.Clone(image)
		for id := range 2 {
			b[id*api.Page+4] = 4
			copy(b[id*api.Page:], crc.Seal(b[id*api.Page:][:api.Page], 252))
		}
		wantOpen(t, "of no known generation", disk.Load(b, limit), api.ErrTxnGen)
		wantOpen(t, "of no known generation, and down", down(disk.Load(b, limit)), api.ErrDown)
		wantOpen(t, "down", down(disk.Load(image, limit)), api.ErrDown)
	}
	wantOpen(t, "no disk", nil, api.ErrArg)
	wantOpen(t, "an empty disk", disk.New(400), api.ErrTxnCorrupt)
	wantOpen(t, "zeros", disk.Load(make([]byte, 9000), 400), api.ErrTxnCorrupt)
}

// Busy is true from Begin to Commit, or Rollback; calls that ask for a transaction are refused else.
func TestP172State(t *testing.T) {
	s, e := txn.Create(disk.New(400), api.G1)
	must(e)
	wantNone := func(what string) {
		t.Helper()
		key := []byte("a")
		is, dropE := s.Drop(key)
		b, touched, touchE := s.Touch(key, false)
		for call, e := range map[string]api.Errno{
			"Commit": s.Commit(), "Rollback": s.Rollback(), "Put": s.Put(key, key), "Put of no key": s.Put(nil, nil),
			"Turn": s.Turn(1, 0, 0, nil), "Turn to nothing": s.Turn(9, 9, 9, nil), "Drop": dropE, "Touch": touchE,
		} {
			if e != api.ErrTxnState {
				t.Fatal(what, ": ", call, " tells ", e)
			}
		}
		if s.Busy() || is || b != nil || touched {
			t.Fatal(what, ": busy, or ", is, b, touched)
		}
	}
	wantNone("created")
	for _, end := range []func() api.Errno{s.Commit, s.Rollback, s.Commit, s.Commit} {
		must(s.Begin())
		for range 2 {
			if e := s.Begin(); e != api.ErrTxnState || !s.Busy() {
				t.Fatal("a second Begin tells ", e)
			}
		}
		must(s.Put([]byte("b"), nil))
		must(end())
		wantNone("ended")
	}
}

// Keys and values are as long as the generation in which they are written has them.
func TestP172Limits(t *testing.T) {
	for _, x := range []struct{ g, target, key, value int }{{1, 0, 16, 400}, {2, 0, 20, 800}, {3, 0, 24, 1600}, {1, 2, 20, 800}, {1, 3, 24, 1600}, {2, 3, 24, 1600}} {
		s, e := txn.Create(disk.New(4000), x.g)
		must(e)
		must(s.Begin())
		if x.target > 0 {
			must(s.Turn(x.g, meta.Moving, x.target, nil))
		}
		has := map[string]string{}
		for key := range 40 {
			for _, value := range []int{0, 1, 32, 33, 239, 240, 241, 247, 248, 249, 400, 401, 800, 801, 1600, 1601, 9999} {
				want := api.OK
				if value > x.value {
					want = api.ErrItemValue
				}
				if key < 1 || key > x.key {
					want = api.ErrItemKey
				}
				k, v := strings.Repeat("k", key), text(key, value)
				if e := s.Put([]byte(k), []byte(v)); e != want {
					t.Fatal("generation ", x, ": a key of ", key, ", a value of ", value, ": ", e)
				}
				if want == api.OK {
					has[k] = v
				}
				if b, is, e := s.Get([]byte(k)); e != api.OK || string(b) != has[k] || is != (key >= 1 && key <= x.key) {
					t.Fatal("generation ", x, ": a key of ", key, " has ", len(b), is, e)
				}
			}
		}
		must(s.Commit())
		r, e := check.Look(s.Pager())
		l, mapE := check.Map(s.Pager(), r)
		if e != api.OK || mapE != api.OK || !samePairs(l, pairs(has)) || r.Old != 0 && x.target == 0 {
			t.Fatal("generation ", x, ": the file is ", r, e, mapE)
		}
	}
}

// In a transaction its own keys are told; behind Rollback all is as it was, whatever was done.
func TestP172Rollback(t *testing.T) {
	for seed := range 30 {
		w := newWorld(t, seed, 1+seed%3, 4000, []int{5, 40}[seed%2], []int{5, 40, 300})
		w.begin()
		w.many()
		w.commit()
		before, ops := w.d.Image(), w.d.Ops()
		for range 3 {
			w.begin()
			w.turn(w.m.r.M.Gen, meta.Moving, 3, "a")
			for range 20 {
				w.put(w.key(), w.value())
				w.drop(w.key())
				w.touch(w.key(), true)
			}
			w.getAll()
			w.rollback()
			w.getAll()
			w.look()
			w.is("something was written", bytes.Equal(w.d.Image(), before) && w.d.Ops() == ops)
		}
		w.begin()
		w.put(keyOf(0), text(seed, 100))
		w.commit()
	}
}

// Touch goes by the order of keys, and tells the last key of the leaf as it was.
func TestP173Touch(t *testing.T) {
	t.Parallel()
	for seed := range 12 {
		w := newWorld(t, seed, 1+seed%3, 20000, 60, []int{0, 20, 32, 33, 300})
		w.begin()
		for _, behind := range []bool{false, true} {
			w.touch("", behind)
			w.touch("m", behind)
			w.touch(strings.Repeat("z", 50), behind)
		}
		for k := range 60 {
			w.put(keyOf(k), w.value())
		}
		w.commit()
		for _, turned := range []bool{false, true} {
			for k := seed % 3; k < 60; k += 3 {
				for _, key := range []string{keyOf(k), keyOf(k) + "\x00", keyOf(k)[:2], ""} {
					for _, behind := range []bool{false, true} {
						w.begin()
						if turned && seed%3 < 2 {
							w.turn(w.m.r.M.Gen, meta.Moving, 3, key)
						}
						w.touch(key, behind)
						w.touch(key, behind)
						if w.IntN(8) == 0 {
							w.commit()
							w.begin()
						}
						w.rollback()
					}
				}
			}
		}
		w.getAll()
	}
}

// What is touched is of the generation that is written; values that are of it already keep their pages.
func TestP173TouchedValues(t *testing.T) {
	s, e := txn.Create(disk.New(4000), api.G1)
	must(e)
	must(s.Begin())
	for _, x := range []struct {
		key  string
		size int
	}{{"a", 300}, {"b", 5}, {"c", 40}, {"d", 32}} {
		must(s.Put([]byte(x.key), []byte(text(1, x.size))))
	}
	must(s.Commit())
	was := look(t, s)
	touch(t, s, "", false, "d")
	if r := look(t, s); !slices.Equal(r.Over, was.Over) || r.M.Root == was.M.Root {
		t.Fatal("values that are not old have moved: ", r)
	}
	must(s.Begin())
	must(s.Turn(api.G1, meta.Moving, api.G3, nil))
	must(s.Put([]byte("e"), []byte(text(1, 50))))
	must(s.Commit())
	if r := look(t, s); r.Old != 3 || slices.Equal(r.Over, was.Over) {
		t.Fatal("a value, and no other one, is of the new generation: ", r)
	}
	kept := look(t, s).Over[3:]
	touch(t, s, "c", true, "e")
	r := look(t, s)
	if r.Old != 0 || !slices.Equal(r.Over[len(r.Over)-1:], kept) || len(r.Over) != 4 {
		t.Fatal("all values are of the new generation, and the last one has stayed: ", r)
	}
}

func look(t *testing.T, s *txn.Store) check.Report {
	t.Helper()
	r, e := check.Look(s.Pager())
	if e != api.OK {
		t.Fatal("Look tells ", e)
	}
	return r
}

// touch is a transaction that touches one leaf.
func touch(t *testing.T, s *txn.Store, key string, behind bool, last string) {
	t.Helper()
	must(s.Begin())
	if b, is, e := s.Touch([]byte(key), behind); string(b) != last || !is || e != api.OK {
		t.Fatal("Touch of ", key, " tells ", string(b), is, e)
	}
	must(s.Commit())
}

// turns tries all generations, phases, targets and cursors.
func (w *world) turns(try func(g, phase, target int, cursor string)) {
	for g := -1; g < 5; g++ {
		for phase := -1; phase < 3; phase++ {
			for target := -1; target < 5; target++ {
				for _, long := range []int{0, 1, 16, 17, 20, 21, 24, 25, 300} {
					try(g, phase, target, strings.Repeat("c", long))
				}
			}
		}
	}
	for _, n := range []int{math.MinInt, math.MaxInt, 256, 257, 259, 1 << 32, 1<<32 + 1} {
		try(n, 0, 0, "")
		try(1, n, 0, "")
		try(1, 1, n, "")
	}
}

// moved is a store that moves from one generation to another one, with some of its pages old, or, if it is swept, with none.
func moved(t *testing.T, g, target int, swept bool) *world {
	t.Helper()
	w := newWorld(t, g, g, 4000, 30, []int{0, 32, 33, 300})
	w.begin()
	for k := range 30 {
		w.put(keyOf(k), w.value())
	}
	w.commit()
	w.begin()
	w.turn(g, meta.Moving, target, "")
	w.touch("", false)
	w.commit()
	if swept {
		w.sweep()
	}
	return w
}

// sweep touches leaf by leaf, as often as it takes.
func (w *world) sweep() {
	w.t.Helper()
	m := w.m.r.M
	for key, is := "", true; is; {
		w.begin()
		last, any, e := w.s.Touch([]byte(key), true)
		wantLast, wantAny, want := w.m.touch(key, true)
		w.want("Touch", e, want)
		w.is("Touch", any == wantAny && string(last) == wantLast)
		key, is = string(last), any
		w.turn(m.Gen, m.Phase, m.Target, key)
		w.commit()
	}
}

// Turn tells what may come behind the newest meta; a draft that has nodes is of one generation.
func TestP173Turn(t *testing.T) {
	var worlds []*world
	for g := api.G1; g <= api.G3; g++ {
		w := newWorld(t, g, g, 4000, 30, []int{5, 100})
		w.begin()
		w.many()
		w.commit()
		worlds = append(worlds, w)
		for target := g + 1; target <= api.G3; target++ {
			worlds = append(worlds, moved(t, g, target, false), moved(t, g, target, true))
		}
	}
	for _, w := range worlds {
		for _, changed := range []bool{false, true} {
			w.begin()
			m := w.m.r.M
			ahead := func() { w.turn(m.Gen, m.Phase, m.Target, string(m.Cursor)) }
			if changed {
				w.touch("", false)
			}
			w.turns(func(g, phase, target int, cursor string) {
				ahead()
				w.turn(g, phase, target, cursor)
				w.turn(m.Gen, meta.Moving, api.G3, "x")
				w.turn(g, phase, target, cursor)
			})
			w.put(keyOf(3), text(3, 100))
			w.turns(w.turn)
			w.commit()
			w.look()
		}
	}
	told := map[string]int{}
	for _, w := range worlds {
		for what, n := range w.told {
			told[what] += n
		}
	}
	for _, e := range []api.Errno{api.OK, api.ErrMetaForm, api.ErrTxnState, api.ErrPhase} {
		if told[fmt.Sprint("Turn ", e)] < 50 {
			t.Fatal("too much alike: ", told)
		}
	}
}

// A store moves from each generation to each greater one, leaf by leaf: then nothing old is left, and it may end.
func TestP173Moves(t *testing.T) {
	for g := api.G1; g <= api.G3; g++ {
		for target := g + 1; target <= api.G3; target++ {
			w := moved(t, g, target, false)
			has := pairs(w.m.has)
			w.begin()
			w.turn(target, meta.Stable, 0, "")
			w.is("it ends too early", w.told["Turn 180"] == 1)
			w.rollback()
			w.sweep()
			w.is("something old is left", w.m.r.Old == 0)
			w.begin()
			w.turn(target, meta.Stable, 0, "")
			w.commit()
			w.begin()
			w.commit()
			w.is("it has ended", meta.Same(w.s.Meta(), w.m.r.M) && w.m.r.M.Gen == target && w.m.r.M.Phase == meta.Stable && w.m.r.Old == 0)
			w.is("no key has changed", samePairs(has, pairs(w.m.has)))
			w.begin()
			w.put("b", text(1, 33*target))
			w.commit()
		}
	}
}
