package phase_test

import (
	"bytes"
	"fmt"
	"maps"
	"math/rand/v2"
	"strings"
	"testing"

	"regauge/api"
	"regauge/check"
	"regauge/disk"
	"regauge/meta"
	"regauge/node"
	"regauge/page"
	"regauge/pager"
	"regauge/phase"
	"regauge/txn"
)

func must(e api.Errno, what ...any) {
	if e != api.OK {
		panic(fmt.Sprint("the test itself can't go on: error ", e, what))
	}
}

// text is a value of so many bytes, of no two sizes or seeds alike.
func text(seed, size int) string {
	r := rand.New(rand.NewPCG(uint64(seed), uint64(size)))
	b := make([]byte, size)
	for k := range b {
		b[k] = byte(r.Uint32())
	}
	return string(b)
}

// keyOf is the k-th key, some of them as long as G1 has them.
func keyOf(k int) string {
	key := fmt.Sprintf("%03d", k*37%1000)
	if k%5 == 1 {
		key += strings.Repeat("x", 13)
	}
	return key
}

// world is a store by chance, and what it is to have.
type world struct {
	*rand.Rand
	t    *testing.T
	what string
	d    *disk.Disk
	s    *txn.Store
	has  map[string]string
	made int
}

// newWorld is a new store, without keys.
func newWorld(t *testing.T, seed, g, limit int) *world {
	t.Helper()
	w := &world{Rand: rand.New(rand.NewPCG(18, uint64(seed))), t: t, d: disk.New(limit), has: map[string]string{}}
	w.what = fmt.Sprintf("seed %d, generation %d", seed, g)
	s, e := txn.Create(w.d, g)
	w.want("Create", e, api.OK)
	w.s = s
	return w
}

// filled is a store of some keys, and of values of all lengths that the generation has.
func filled(t *testing.T, seed, g, keys int) *world {
	t.Helper()
	w := newWorld(t, seed, g, api.MaxDisk)
	for range 1 + seed%3 {
		w.write(keys)
	}
	return w
}

func (w *world) want(call string, e, want api.Errno) {
	w.t.Helper()
	if e != want {
		w.t.Fatalf("%s: %s tells %d, want %d", w.what, call, e, want)
	}
}

func (w *world) is(what string, is bool) {
	w.t.Helper()
	if !is {
		w.t.Fatalf("%s: %s", w.what, what)
	}
}

// value is one that may be in the generation in which is written.
func (w *world) value() string {
	w.made++
	sizes := []int{0, 5, 31, 32, 33, 60, 100, 240, 241, 248, 249, 400, 401, 800, 801, 1600}
	most := []int{12, 14, 16}[meta.Write(w.s.Meta())-1]
	return text(w.made, sizes[w.IntN(most)])
}

// write is a transaction that puts most of the keys, or drops some.
func (w *world) write(keys int) {
	w.t.Helper()
	w.want("Begin", w.s.Begin(), api.OK)
	for k := range keys {
		switch key := keyOf(k); {
		case w.IntN(5) == 0:
			is, e := w.s.Drop([]byte(key))
			_, was := w.has[key]
			w.is("Drop", is == was && e == api.OK)
			delete(w.has, key)
		case w.IntN(3) > 0:
			w.put(key, w.value())
		}
	}
	w.want("Commit", w.s.Commit(), api.OK)
}

func (w *world) put(key, value string) {
	w.t.Helper()
	w.want("Put", w.s.Put([]byte(key), []byte(value)), api.OK)
	w.has[key] = value
}

// copied is the same world on a disk of its own, opened anew.
func (w *world) copied() *world {
	w.t.Helper()
	return w.loaded(w.d.Copy())
}

// cut is the same world on a disk that may have so many pages.
func (w *world) cut(pages int) *world {
	w.t.Helper()
	return w.loaded(disk.Load(w.d.Image(), 4*pages))
}

// loaded is the world with the store that stands on a disk.
func (w *world) loaded(d *disk.Disk) *world {
	w.t.Helper()
	c := *w
	c.d, c.has = d, maps.Clone(w.has)
	s, e := txn.Open(d)
	c.want("Open", e, api.OK)
	c.s = s
	return &c
}

// dated is a store without keys whose newest meta is of that transaction.
func dated(t *testing.T, m meta.Meta) *world {
	t.Helper()
	w := newWorld(t, 1, m.Gen, 4000)
	leaf, e := page.Encode(meta.Write(m), node.Node{Leaf: true})
	must(e)
	m.Root, m.Pages = 2, 3
	must(pager.New(w.d).Format([]pager.Write{{Id: 2, B: leaf}}, m))
	return w.loaded(w.d)
}

// look holds the file, and what Of tells of it, against what is to be there.
func (w *world) look() *file {
	w.t.Helper()
	f := read(w.t, w.d)
	w.is("there are other keys, or values", maps.Equal(f.has, w.has))
	x, e := phase.Of(w.s)
	w.is(fmt.Sprint("Of tells ", x, ", error ", e, ", want ", f.state()), e == api.OK && sameState(x, f.state()))
	r, e := check.Look(w.s.Pager())
	w.is("Look", e == api.OK && len(r.Tree.Items) == len(w.has))
	w.is("Meta", meta.Same(w.s.Meta(), f.m) && meta.Same(r.M, f.m))
	for key, value := range w.has {
		b, is, e := w.s.Get([]byte(key))
		w.is("Get of "+key, string(b) == value && is && e == api.OK)
	}
	return f
}

// step sweeps one leaf, and tells whether there was any.
func (w *world) step() bool {
	w.t.Helper()
	m := w.s.Meta()
	w.want("Begin", w.s.Begin(), api.OK)
	last, is, e := w.s.Touch(m.Cursor, len(m.Cursor) > 0)
	w.want("Touch", e, api.OK)
	if !is {
		w.want("Rollback", w.s.Rollback(), api.OK)
		return false
	}
	w.want("Turn", w.s.Turn(m.Gen, m.Phase, m.Target, last), api.OK)
	w.want("Commit", w.s.Commit(), api.OK)
	return true
}

// sweep sweeps all.
func (w *world) sweep() {
	w.t.Helper()
	for w.step() {
	}
}

// moving is a store that moves, and of which, if it is swept, nothing is old.
func moving(t *testing.T, seed, g, target, keys int, swept bool) *world {
	t.Helper()
	w := filled(t, seed, g, keys)
	w.want("Start", phase.Start(w.s, target), api.OK)
	if swept {
		w.sweep()
	}
	return w
}

// unchanged holds that a call has changed nothing of the file, or of the store.
func (w *world) unchanged(what string, call func()) {
	w.t.Helper()
	m, busy, dead, b, ops := w.s.Meta(), w.s.Busy(), w.s.Dead(), w.d.Image(), w.d.Ops()
	call()
	w.is(what+" has changed the store", meta.Same(m, w.s.Meta()) && busy == w.s.Busy() && dead == w.s.Dead())
	w.is(what+" has written", bytes.Equal(b, w.d.Image()) && ops == w.d.Ops())
}

// each has a call be done for each generation and each greater one.
func each(call func(g, target int)) {
	for g := api.G1; g <= api.G3; g++ {
		for target := g + 1; target <= api.G3; target++ {
			call(g, target)
		}
	}
}

// keeps is what may survive: nothing, all, each second one, and anything.
func keeps(r *rand.Rand) [][]bool {
	l := [][]bool{nil, {true}, {true, false}, {false, true}, {false, false, false, true}, {true, true, true, false}}
	for range 6 {
		var keep []bool
		for range 1 + r.IntN(60) {
			keep = append(keep, r.IntN(2) == 0)
		}
		l = append(l, keep)
	}
	return l
}
