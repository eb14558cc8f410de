package txn_test

import (
	"bytes"
	"fmt"
	"maps"
	"math/rand/v2"
	"slices"
	"strings"
	"testing"

	"regauge/api"
	"regauge/check"
	"regauge/disk"
	"regauge/meta"
	"regauge/txn"
)

func must(e api.Errno, what ...any) {
	if e != api.OK {
		panic(fmt.Sprint("the test itself can't go on: error ", e, what))
	}
}

// text is a value of so many bytes, of no two sizes or seeds alike.
func text(seed, size int) string {
	r := rand.New(rand.NewPCG(uint64(seed), uint64(size)))
	b := make([]byte, size)
	for k := range b {
		b[k] = byte(r.Uint32())
	}
	return string(b)
}

// world is a store by chance, and the model beside it.
type world struct {
	*rand.Rand
	t     *testing.T
	what  string
	d     *disk.Disk
	s     *txn.Store
	m     *model
	snaps []*txn.Snap // those that are open, as the model has them
	keys  int         // how many there may be
	sizes []int       // how long values are
	made  int
	told  map[string]int
}

// newWorld is a new store.
func newWorld(t *testing.T, seed, g, limit, keys int, sizes []int) *world {
	t.Helper()
	w := &world{Rand: rand.New(rand.NewPCG(17, uint64(seed))), t: t, d: disk.New(limit), keys: keys, sizes: sizes, told: map[string]int{}}
	w.what = fmt.Sprintf("seed %d, generation %d, %d sectors", seed, g, limit)
	s, e := txn.Create(w.d, g)
	w.want("Create", e, api.OK)
	w.s = s
	r, e := check.Look(s.Pager())
	w.want("Look", e, api.OK)
	w.m = newModel(w.d, r, map[string]string{})
	return w
}

// want holds an error, and counts what was told.
func (w *world) want(call string, e, want api.Errno) {
	w.t.Helper()
	w.told[fmt.Sprint(call, " ", want)]++
	if e != want {
		w.t.Fatalf("%s: %s tells %d, want %d", w.what, call, e, want)
	}
}

func (w *world) is(what string, is bool) {
	w.t.Helper()
	if !is {
		w.t.Fatalf("%s: %s", w.what, what)
	}
}

// keyOf is the k-th key: they are of all lengths that G1 has, and, some of them, of more.
func keyOf(k int) string {
	key := fmt.Sprintf("%03d", k*37%1000)
	switch k % 5 {
	case 1:
		key += strings.Repeat("x", 13)
	case 2:
		key += strings.Repeat("y", k%12)
	case 3:
		key += strings.Repeat("z", k%22)
	}
	return key
}

func (w *world) key() string {
	switch w.IntN(40) {
	case 0:
		return ""
	case 1:
		return strings.Repeat("k", 15+w.IntN(12))
	}
	return keyOf(w.IntN(w.keys))
}

func (w *world) value() string {
	w.made++
	size := w.sizes[w.IntN(len(w.sizes))]
	if w.IntN(3) == 0 {
		size = w.IntN(size + 1)
	}
	return text(w.made, size)
}

func (w *world) begin() {
	w.want("Begin", w.s.Begin(), w.m.begin())
}

func (w *world) rollback() {
	w.want("Rollback", w.s.Rollback(), w.m.rollback())
}

func (w *world) put(key, value string) {
	w.t.Helper()
	b, v := []byte(key), []byte(value)
	w.want("Put", w.s.Put(b, v), w.m.put(key, value))
	w.is("Put has changed what it was given", string(b) == key && string(v) == value)
	clear(b)
	clear(v)
}

func (w *world) drop(key string) {
	w.t.Helper()
	is, e := w.s.Drop([]byte(key))
	wantIs, want := w.m.drop(key)
	w.want("Drop", e, want)
	w.is("Drop tells whether it was there", is == wantIs)
}

func (w *world) get(key string) {
	w.t.Helper()
	b, is, e := w.s.Get([]byte(key))
	value, wantIs := w.m.newest()[key]
	w.want("Get", e, api.OK)
	w.is("Get of "+key, is == wantIs && string(b) == value)
	clear(b)
}

// getAll holds all keys against what Get tells of them.
func (w *world) getAll() {
	w.t.Helper()
	for k := range w.keys {
		w.get(keyOf(k))
	}
}

func (w *world) touch(key string, behind bool) {
	w.t.Helper()
	last, is, e := w.s.Touch([]byte(key), behind)
	wantLast, wantIs, want := w.m.touch(key, behind)
	w.want("Touch", e, want)
	w.is("Touch of "+key, is == wantIs && string(last) == wantLast)
	clear(last)
}

func (w *world) turn(g, phase, target int, cursor string) {
	w.t.Helper()
	b := []byte(cursor)
	w.want("Turn", w.s.Turn(g, phase, target, b), w.m.turn(g, phase, target, b))
	clear(b)
}

// turnSome turns to anything, or to what may come next.
func (w *world) turnSome() {
	is := w.s.Meta()
	switch w.IntN(5) {
	case 0:
		w.turn(w.IntN(5), w.IntN(3), w.IntN(5), w.key())
	case 1:
		w.turn(is.Gen, meta.Moving, is.Gen+1+w.IntN(2), "")
	case 2:
		w.turn(is.Target, meta.Stable, 0, "")
	case 3:
		w.turn(is.Gen, is.Phase, is.Target, "")
	default:
		w.turn(is.Gen, is.Phase, is.Target, w.key())
	}
}

// guarded is the bytes of all pages that no commit may write over: of the newest state, the one ahead of it, and the snapshots'.
func (w *world) guarded() map[int][]byte {
	of := map[int][]byte{}
	keep := func(r check.Report) {
		for _, id := range used(r) {
			b, e := w.d.Read(id*4, 4)
			must(e, id)
			of[id] = b
		}
	}
	keep(w.m.r)
	keep(w.m.ahead)
	for _, n := range w.m.snaps {
		r := n.r
		r.List = nil // no snapshot reads it
		keep(r)
	}
	return of
}

// commit holds a commit, and the file behind it, against the model.
func (w *world) commit() {
	w.t.Helper()
	next, want := w.m.commit()
	guarded := w.guarded()
	w.want("Commit", w.s.Commit(), want)
	for id, b := range guarded {
		now, e := w.d.Read(id*4, 4)
		w.is(fmt.Sprint("page ", id, " was written over"), e == api.OK && bytes.Equal(b, now))
	}
	if want == api.OK {
		w.is("it grows by more than it writes beyond what was free, and one", w.grows(next) <= 1 || write(next.r.M) == api.G3)
		w.is("all is durable", w.d.Pending() == 0)
		w.m = next
	}
	w.look()
}

// grows is by how many pages more a file grows than it writes beyond those that were free.
func (w *world) grows(next *model) int {
	beyond := len(written(w.m, next)) - len(w.m.open.pages.free)
	return next.r.M.Pages - w.m.r.M.Pages - max(beyond, 0)
}

// look holds the file against the model.
func (w *world) look() {
	w.t.Helper()
	r, e := check.Look(w.s.Pager())
	w.is(fmt.Sprint("the file is ", r, ", error ", e, ", want ", w.m.r), e == api.OK && sameReport(r, w.m.r))
	l, e := check.Map(w.s.Pager(), r)
	w.is("Map", e == api.OK && samePairs(l, pairs(w.m.has)))
	w.is("Meta", meta.Same(w.s.Meta(), w.m.r.M))
	w.is("Busy, Dead", w.s.Busy() == (w.m.open != nil) && !w.s.Dead())
	for k, n := range w.snaps {
		l, e := n.All()
		w.is(fmt.Sprint("snapshot ", k, " has changed, error ", e), e == api.OK && samePairs(l, pairs(w.m.snaps[k].has)))
	}
}

func (w *world) snap() {
	n, e := w.s.Snap()
	w.want("Snap", e, api.OK)
	w.snaps = append(w.snaps, n)
	w.m.snaps = append(w.m.snaps, &modelSnap{w.m.r, w.m.has})
}

// read asks a snapshot, or closes it.
func (w *world) read() {
	w.t.Helper()
	if len(w.snaps) == 0 {
		return
	}
	k := w.IntN(len(w.snaps))
	n, of := w.snaps[k], w.m.snaps[k]
	key := w.key()
	b, is, e := n.Get([]byte(key))
	value, wantIs := of.has[key]
	w.want("a snapshot's Get", e, api.OK)
	w.is("a snapshot's Get of "+key, is == wantIs && string(b) == value)
	w.is("a snapshot's Meta", meta.Same(n.Meta(), of.r.M))
	if w.IntN(3) == 0 {
		w.want("Close", n.Close(), api.OK)
		w.wantClosed(n, of)
		w.snaps, w.m.snaps = slices.Delete(w.snaps, k, k+1), slices.Delete(w.m.snaps, k, k+1)
	}
}

func (w *world) wantClosed(n *txn.Snap, of *modelSnap) {
	w.t.Helper()
	b, is, e := n.Get([]byte(keyOf(0)))
	l, allE := n.All()
	w.is("closed: Get", b == nil && !is && e == api.ErrTxnState)
	w.is("closed: All", l == nil && allE == api.ErrTxnState)
	w.is("closed: Close", n.Close() == api.ErrTxnState)
	w.is("closed: Meta", meta.Same(n.Meta(), of.r.M))
}

// reopen goes on with what stands on the disk.
func (w *world) reopen(has map[string]string) {
	w.t.Helper()
	before, ops := w.d.Image(), w.d.Ops()
	s, e := txn.Open(w.d)
	w.want("Open", e, api.OK)
	w.is("Open has written", bytes.Equal(before, w.d.Image()) && ops == w.d.Ops() && s.Pager().Disk() == w.d)
	ahead := w.m.ahead
	r, e := check.Look(s.Pager())
	must(e)
	w.s, w.m, w.snaps = s, newModel(w.d, r, has), nil
	w.m.ahead = ahead
	w.look()
}

// written is the pages that a commit writes, rising: those in use that were not.
func written(m, next *model) []int {
	was := used(m.r)
	l := slices.DeleteFunc(used(next.r), func(id int) bool { return slices.Contains(was, id) })
	slices.Sort(l)
	return l
}

// crash has the disk go down at some op of a commit, and goes on with what survives.
func (w *world) crash() {
	w.t.Helper()
	if w.m.open == nil {
		return
	}
	next, want := w.m.commit()
	if want != api.OK {
		return
	}
	w.d.Arm(w.IntN(len(written(w.m, next)) + 5))
	e := w.s.Commit()
	w.is("Commit tells whether the disk went down", (e == api.ErrDown) == w.d.Down() && (e == api.OK || e == api.ErrDown))
	if e == api.OK {
		w.d.Arm(-1)
		w.m = next
		w.look()
		return
	}
	s, snaps := w.s, w.snaps
	var keep []bool
	for range w.IntN(20) {
		keep = append(keep, w.IntN(3) > 0)
	}
	w.d.Crash(keep)
	wantDead(w.t, w.what, s, snaps...)
	r, e := check.Look(s.Pager())
	w.is(fmt.Sprint("behind a crash Look tells error ", e), e == api.OK)
	switch {
	case sameReport(r, next.r):
		w.m = next
	case !sameReport(r, w.m.r):
		w.t.Fatalf("%s: behind a crash there is %v; want %v or %v", w.what, r, w.m.r, next.r)
	}
	w.told[fmt.Sprint("crash ", r.M.Txid-s.Meta().Txid)]++
	w.reopen(w.m.has)
}

// wantDead holds all calls of a dead store, and of its snapshots, open or closed.
func wantDead(t *testing.T, what string, s *txn.Store, snaps ...*txn.Snap) {
	t.Helper()
	busy, m, p, key := s.Busy(), s.Meta(), s.Pager(), []byte("a")
	want := func(call string, e api.Errno, zero bool) {
		t.Helper()
		if e != api.ErrDown || !zero {
			t.Fatalf("%s: dead: %s tells %d, and whether that is all: %v", what, call, e, zero)
		}
	}
	is, e := s.Drop(key)
	want("Drop", e, !is)
	b, is, e := s.Get(key)
	want("Get", e, b == nil && !is)
	b, is, e = s.Touch(key, false)
	want("Touch", e, b == nil && !is)
	n, e := s.Snap()
	want("Snap", e, n == nil)
	want("Begin", s.Begin(), true)
	want("Put", s.Put(key, nil), true)
	want("Put of no key", s.Put(nil, nil), true)
	want("Turn", s.Turn(m.Gen, m.Phase, m.Target, nil), true)
	want("Turn to nothing", s.Turn(0, 9, 9, nil), true)
	want("Commit", s.Commit(), true)
	want("Rollback", s.Rollback(), true)
	for _, n := range snaps {
		b, is, e := n.Get(key)
		want("a snapshot's Get", e, b == nil && !is)
		l, e := n.All()
		want("a snapshot's All", e, l == nil)
		want("a snapshot's Close", n.Close(), true)
		n.Meta()
	}
	if !s.Dead() || s.Busy() != busy || !meta.Same(s.Meta(), m) || s.Pager() != p {
		t.Fatal(what, ": a dead store is ", s.Dead(), s.Busy(), s.Meta())
	}
}

// many puts, or drops, a great part of all keys.
func (w *world) many() {
	w.t.Helper()
	drops := w.IntN(2) == 0
	for k := range w.keys {
		switch {
		case w.IntN(4) == 0:
		case drops:
			w.drop(keyOf(k))
		default:
			w.put(keyOf(k), w.value())
		}
	}
}

// step does something.
func (w *world) step() {
	w.t.Helper()
	if !w.s.Busy() && w.IntN(2) == 0 {
		w.begin()
	}
	switch k := w.IntN(100); {
	case k < 2:
		w.begin()
	case k < 34:
		w.put(w.key(), w.value())
	case k < 50:
		w.drop(w.key())
	case k < 58:
		w.get(w.key())
	case k < 66:
		w.touch(w.key(), w.IntN(2) == 0)
	case k < 74:
		w.turnSome()
	case k < 86:
		w.commit()
	case k < 88:
		w.rollback()
	case k < 90:
		w.snap()
	case k < 94:
		w.read()
	case k < 97:
		w.crash()
	case k < 98:
		w.getAll()
	case k < 99:
		w.many()
	default:
		w.reopen(maps.Clone(w.m.has))
	}
	w.count()
}

// count notes what kinds of files come up.
func (w *world) count() {
	r := w.m.r
	w.told[fmt.Sprint("phase ", r.M.Phase, " of ", r.M.Gen)]++
	w.told[fmt.Sprint("list of ", min(len(r.List), 5))]++
	w.told[fmt.Sprint("depth ", r.Tree.Depth)]++
	w.told[fmt.Sprint("old ", r.Old > 0)]++
	w.told[fmt.Sprint("snapshots ", len(w.snaps))]++
}
