package phase_test

import (
	"bytes"
	"maps"
	"slices"
	"testing"

	"regauge/api"
	"regauge/disk"
	"regauge/item"
	"regauge/meta"
	"regauge/over"
	"regauge/page"
	"regauge/phase"
	"regauge/shelf"
)

// file is what stands on a disk: it is read page by page, without the layers that read it as a whole.
type file struct {
	t     *testing.T
	b     []byte
	m     meta.Meta
	other []byte            // the bytes of the meta that isn't the newest one
	gens  map[int]int       // of each page in use
	has   map[string]string // all keys and values
	keys  [][]byte          // in order
	first []byte            // the last key of the first leaf that has any
}

// read reads the newest state.
func read(t *testing.T, d *disk.Disk) *file {
	t.Helper()
	f := &file{t: t, b: d.Image(), gens: map[int]int{}, has: map[string]string{}}
	m, slot, e := meta.Choose(f.page(0), f.page(1))
	f.want("the metas", e)
	f.m, f.other = m, f.page(1-slot)
	f.node(m.Root)
	_, _, ids, e := shelf.Decode(func(id int) ([]byte, api.Errno) { return f.page(id), api.OK }, m.List)
	f.want("the list", e)
	for _, id := range ids {
		f.use(id, int(f.page(id)[1]))
	}
	return f
}

func (f *file) want(what string, e api.Errno) {
	f.t.Helper()
	if e != api.OK {
		f.t.Fatal(what, " can't be read: error ", e)
	}
}

func (f *file) page(id int) []byte {
	return f.b[id*api.Page:][:api.Page]
}

func (f *file) use(id, g int) {
	f.t.Helper()
	if f.gens[id] != 0 {
		f.t.Fatal("page ", id, " is used twice")
	}
	f.gens[id] = g
}

// node reads a node, and all that is under it.
func (f *file) node(id int) {
	f.t.Helper()
	g, n, e := page.Decode(f.page(id))
	f.want("a node", e)
	f.use(id, g)
	for _, kid := range n.Kids {
		f.node(kid.Ref)
	}
	for _, it := range n.Items {
		f.item(it)
	}
	if f.first == nil && len(n.Items) > 0 {
		f.first = n.Items[len(n.Items)-1].Key
	}
}

func (f *file) item(it item.Item) {
	f.t.Helper()
	value := it.Value
	if it.Ref > 0 {
		g, b, ids, e := over.Decode(func(id, many int) ([]byte, api.Errno) { return f.b[id*api.Page:][:many*api.Page], api.OK }, it.Ref, it.Size)
		f.want("a value", e)
		for _, id := range ids {
			f.use(id, g)
		}
		value = b
	}
	f.has[string(it.Key)] = string(value)
	f.keys = append(f.keys, it.Key)
}

// old is how many pages are of another generation than that in which is written.
func (f *file) old() int {
	n := 0
	for _, g := range f.gens {
		if g != f.writes() {
			n++
		}
	}
	return n
}

func (f *file) writes() int {
	if f.m.Phase == meta.Moving {
		return f.m.Target
	}
	return f.m.Gen
}

// state is what Of is to tell of it.
func (f *file) state() phase.State {
	return phase.State{Gen: f.m.Gen, Target: f.m.Target, Moving: f.m.Phase == meta.Moving, Old: f.old(), Pages: f.m.Pages, Cursor: f.m.Cursor}
}

// metas is the generations and phases of both metas: 0 and 0 of one that is none.
func (f *file) metas() [2][2]int {
	m, _ := meta.Decode(f.other)
	return [2][2]int{{f.m.Gen, f.m.Phase}, {m.Gen, m.Phase}}
}

func sameState(a, b phase.State) bool {
	return a.Gen == b.Gen && a.Target == b.Target && a.Moving == b.Moving && a.Old == b.Old && a.Pages == b.Pages && bytes.Equal(a.Cursor, b.Cursor)
}

func zeroState(x phase.State) bool {
	return sameState(x, phase.State{}) && x.Cursor == nil
}

// wantEnded holds that nothing speaks of a move any more.
func (f *file) wantEnded(what string, g int, has map[string]string) {
	f.t.Helper()
	for id, is := range f.gens {
		if is != g {
			f.t.Fatal(what, ": page ", id, " is of generation ", is, ", want ", g)
		}
	}
	if f.metas() != [2][2]int{{g, meta.Stable}, {g, meta.Stable}} || f.m.Target != 0 || len(f.m.Cursor) > 0 {
		f.t.Fatal(what, ": the metas are of (generation, phase) ", f.metas(), ", the newest one is ", f.m)
	}
	if !maps.Equal(f.has, has) {
		f.t.Fatal(what, ": there are other keys, or values")
	}
	for id := range 2 {
		if m, e := meta.Decode(f.page(id)); e != api.OK || m.Gen != g || m.Phase != meta.Stable {
			f.t.Fatal(what, ": the meta of page ", id, " is ", m, ", error ", e)
		}
	}
}

// inUse is all pages that are in use, rising.
func (f *file) inUse() []int {
	return slices.Sorted(maps.Keys(f.gens))
}
