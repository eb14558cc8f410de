package edit_test

import (
	"bytes"
	"fmt"
	"maps"
	"math/rand/v2"
	"slices"
	"testing"

	"regauge/api"
	"regauge/edit"
	"regauge/item"
	"regauge/node"
	"regauge/tree"
)

// wantAsModel holds all that a draft tells against the model.
func wantAsModel(t *testing.T, what string, d *edit.Draft, m *model) {
	t.Helper()
	gone := slices.Sorted(maps.Keys(m.gone))
	if d.Many() != len(m.own) || !slices.Equal(d.Gone(), gone) {
		t.Fatalf("%s: %d nodes, gone %v; want %d, %v", what, d.Many(), d.Gone(), len(m.own), gone)
	}
	for ref := -1; ref >= m.last-3; ref-- {
		n, e := d.Node(ref)
		want, wantE := m.node(ref)
		if e != wantE || !node.Same(n, want) {
			t.Fatalf("%s: %d is %v, error %d; want %v, %d", what, ref, n, e, want, wantE)
		}
	}
}

// wantTree holds P14.4: a tree that is one, of these items; its own nodes are just the draft's, each of which fits; gone are just those of the source's tree that are not in it.
func wantTree(t *testing.T, what string, d *edit.Draft, g, root int, before []int, items []item.Item) {
	t.Helper()
	w, e := tree.All(d.Node, root)
	if e != api.OK || !slices.EqualFunc(w.Items, items, item.Same) {
		t.Fatalf("%s: All of %d: error %d, %v, want %v", what, root, e, w.Items, items)
	}
	own := 0
	for _, ref := range w.Refs {
		if ref >= 0 {
			continue
		}
		own++
		if n, e := d.Node(ref); e != api.OK || !node.Fits(g, n) {
			t.Fatalf("%s: %d does not fit: %v, error %d", what, ref, n, e)
		}
	}
	gone := slices.DeleteFunc(slices.Sorted(slices.Values(before)), func(ref int) bool { return slices.Contains(w.Refs, ref) })
	if d.Many() != own || !slices.Equal(d.Gone(), gone) {
		t.Fatalf("%s: %d nodes, %d of them in the tree; gone %v, want %v", what, d.Many(), own, d.Gone(), gone)
	}
}

// menu is nodes of numbers 0 to 2, and one that is not there, right ones and others, whose keys rise.
func menu() []node.Node {
	l := []node.Node{{}, branch(0), branch(1), branch(2), branch(3), leaf(""), leaf("a"), leaf("c"), leaf("ab"), leaf("de"), leaf("abc"), leaf("cde"), leaf("abcdef"), leaf("efghij")}
	for ref := range 3 {
		for other := range 4 {
			l = append(l, branch(ref, "c", other))
		}
	}
	return append(l, branch(1, "", 2), branch(1, "a", 2), branch(1, "c", 2, "e", 1), branch(2, "b", 1, "d", 2), branch(1, "c", 2, "e", 3))
}

// deeds are changes of a draft and of the model.
var deeds = []struct {
	key string
	f   func(node.Node) (node.Node, api.Errno)
}{
	{key: "a"}, {key: "c"}, {key: "f"}, {key: "!a"}, {key: "!b"}, {key: "!c"}, {key: "!e"}, {key: "!"},
	{"a", as(node.Node{Leaf: true})}, {"d", as(node.Node{Leaf: true})}, {"d", as(leaf("defghijklmnopq"))},
	{"a", failing(api.ErrDown)}, {"a", as(node.Node{})}, {"e", as(branch(1))}, {"e", as(branch(2))}, {"a", as(branch(2, "b", 0))},
}

// do does a deed upon both, and holds their answers against each other. It tells the root to go on from.
func do(t *testing.T, what string, d *edit.Draft, m *model, root, deed int) (int, api.Errno) {
	t.Helper()
	x := deeds[deed]
	var next, want int
	var is, wantIs bool
	var e, wantE api.Errno
	switch {
	case x.f != nil:
		next, e = d.Change(root, []byte(x.key), x.f)
		want, wantE = m.change(root, []byte(x.key), x.f)
	case x.key[0] == '!':
		next, is, e = d.Drop(root, []byte(x.key[1:]))
		want, wantIs, wantE = m.drop(root, []byte(x.key[1:]))
	default:
		next, e = d.Put(root, entryOf(x.key))
		want, wantE = m.put(root, entryOf(x.key))
	}
	if next != want || is != wantIs || e != wantE {
		t.Fatalf("%s, deed %d: %d, %v, error %d; want %d, %v, %d", what, deed, next, is, e, want, wantIs, wantE)
	}
	if e != api.OK {
		return root, e
	}
	return next, e
}

// rise tells whether the keys of all own nodes do: of others no deed is told by the chapter.
func rise(m *model) bool {
	for _, n := range m.own {
		r := rowOf(n)
		for k := range r.l {
			if k > 0 && bytes.Compare(r.l[k-1].key, r.l[k].key) >= 0 {
				return false
			}
		}
	}
	return true
}

// All of two nodes of the menu, with some of a third one, trees or not: two deeds, one behind the other.
func TestP142SmallTrees(t *testing.T) {
	l := menu()
	seen := map[api.Errno]int{}
	for i, n0 := range l {
		for j, n1 := range l {
			for k := (i + j) % 4; k < len(l); k += 4 {
				src := nodes{0: n0, 1: n1, 2: l[k]}.source
				for deed := range deeds {
					what := fmt.Sprintf("%d, %d, %d", i, j, k)
					d, m := mustNew(t, src, api.G1), newModel(src, api.G1)
					root, e := do(t, what, d, m, 0, deed)
					seen[e]++
					wantAsModel(t, what, d, m)
					if !rise(m) {
						continue
					}
					do(t, what+", then", d, m, root, (i+j+k+deed)%len(deeds))
					wantAsModel(t, what+", then", d, m)
				}
			}
		}
	}
	for _, e := range []api.Errno{api.OK, api.ErrTreeForm, api.ErrTreeDeep, api.ErrRange, api.ErrDown} {
		if seen[e] < 1000 {
			t.Error("not all kinds of answers:", seen)
		}
	}
}

// world is a tree of a source, by chance from a fixed seed.
type world struct {
	r     *rand.Rand
	g     int // of the source
	l     nodes
	items []item.Item
	root  int
}

// key is one of those that may be in the source's generation, and in each greater one.
func (w *world) key() []byte {
	key := fmt.Appendf(nil, "%03d", w.r.IntN(400))
	if w.r.IntN(2) == 0 {
		key = append(key, bytes.Repeat([]byte{'x'}, w.r.IntN(item.MaxKey(w.g)-2))...)
	}
	return key
}

func (w *world) item() item.Item {
	switch w.r.IntN(6) {
	case 0:
		return item.Item{Key: w.key(), Size: 33 + w.r.IntN(300), Ref: 2 + w.r.IntN(1000)}
	case 1:
		return item.Of(w.key(), make([]byte, 33+w.r.IntN(300)))
	case 2:
		return item.Of(w.key(), nil)
	}
	return item.Of(w.key(), make([]byte, w.r.IntN(33)))
}

func (w *world) add(n node.Node) int {
	ref := w.r.IntN(5000)
	for _, is := w.l[ref]; is; _, is = w.l[ref] {
		ref = w.r.IntN(5000)
	}
	w.l[ref] = n
	return ref
}

// grown is a world of so many items, in leaves and branches that are sparse, or as full as can be.
func grown(r *rand.Rand, g, many int, sparse bool) *world {
	w := &world{r: r, g: g, l: nodes{}}
	for range many {
		w.items = putInto(node.Node{Items: w.items}, w.item()).Items
	}
	var row []node.Kid
	for at := 0; at < len(w.items) || len(row) == 0; {
		n := node.Node{Leaf: true}
		most := 1 + r.IntN(3)
		for at < len(w.items) && (len(n.Items) < most || !sparse) && node.Fits(g, node.With(n, w.items[at])) {
			n.Items = append(n.Items, w.items[at])
			at++
		}
		kid := node.Kid{Ref: w.add(n)}
		if len(n.Items) > 0 {
			kid.Key = n.Items[0].Key
		}
		row = append(row, kid)
	}
	for len(row) > 1 {
		row = w.floor(row, sparse)
	}
	w.root = row[0].Ref
	return w
}

// floor is branches above a row.
func (w *world) floor(row []node.Kid, sparse bool) []node.Kid {
	var next []node.Kid
	for len(row) > 0 {
		take := min(2, len(row))
		most := 2 + w.r.IntN(3)
		for take < len(row) && (take < most || !sparse) && node.Fits(w.g, node.Node{Kids: row[:take+1]}) {
			take++
		}
		if len(row)-take == 1 && take > 2 {
			take--
		} else if len(row)-take == 1 {
			take++
		}
		kids := slices.Clone(row[:take])
		kids[0].Key = nil
		next = append(next, node.Kid{Key: row[0].Key, Ref: w.add(node.Node{Kids: kids})})
		row = row[take:]
	}
	return next
}

// pick is the key of an item, if it can be, or another one.
func (w *world) pick() []byte {
	if len(w.items) == 0 || w.r.IntN(8) == 0 {
		return w.key()
	}
	return w.items[w.r.IntN(len(w.items))].Key
}

func (w *world) has(key []byte) bool {
	return slices.ContainsFunc(w.items, func(it item.Item) bool { return bytes.Equal(it.Key, key) })
}

// step changes draft, model and items by chance, and tells the new root.
func (w *world) step(t *testing.T, what string, d *edit.Draft, m *model, root, puts int) int {
	t.Helper()
	if w.r.IntN(10) < puts {
		it := w.item()
		next, e := d.Put(root, it)
		want, wantE := m.put(root, it)
		wantRoot(t, what, next, e, want, wantE)
		w.items = putInto(node.Node{Items: w.items}, it).Items
		return next
	}
	key := w.pick()
	next, is, e := d.Drop(root, key)
	want, wantIs, wantE := m.drop(root, key)
	wantRoot(t, what, next, e, want, wantE)
	if is != wantIs || is != w.has(key) {
		t.Fatalf("%s: dropped: %v, want %v", what, is, w.has(key))
	}
	w.items = slices.DeleteFunc(slices.Clone(w.items), func(it item.Item) bool { return bytes.Equal(it.Key, key) })
	return next
}

// From trees of each generation, sparse and full ones, drafts of it and of each greater one go long ways, till little is left, or much is there.
func TestP144Grown(t *testing.T) {
	r := rand.New(rand.NewPCG(14, 4))
	depths := map[int]int{}
	for n := range 240 {
		g := 1 + n%3
		w := grown(r, g, r.IntN(120), n%2 == 0)
		all, e := tree.All(w.l.source, w.root)
		if e != api.OK {
			t.Fatalf("%d: the source's: error %d", n, e)
		}
		depths[all.Depth]++
		was := nodes{}
		for ref, n := range w.l {
			was[ref] = clone(n)
		}
		to := g + r.IntN(4-g)
		d, m := mustNew(t, w.l.source, to), newModel(w.l.source, to)
		puts := r.IntN(11)
		root := w.root
		for k := range 60 {
			what := fmt.Sprintf("tree %d of %d, in %d, step %d", n, g, to, k)
			root = w.step(t, what, d, m, root, puts)
			wantTree(t, what, d, to, root, all.Refs, w.items)
			wantAsModel(t, what, d, m)
		}
		for ref, n := range w.l {
			if !node.Same(n, was[ref]) {
				t.Fatalf("the source's %d is changed: %v", ref, n)
			}
		}
	}
	if depths[1] < 10 || depths[2] < 10 || depths[3] < 10 || depths[4] < 10 || depths[5] < 10 {
		t.Error("not all depths:", depths)
	}
}

// Full nodes of G1 do not fit in a greater generation: wherever one is changed, all on its path are cut.
func TestP144Greater(t *testing.T) {
	r := rand.New(rand.NewPCG(14, 44))
	cut := 0
	for n := range 40 {
		w := grown(r, api.G1, 150+r.IntN(150), false)
		all, _ := tree.All(w.l.source, w.root)
		for _, to := range []int{api.G2, api.G3} {
			for range 20 {
				d := mustNew(t, w.l.source, to)
				it := w.items[r.IntN(len(w.items))]
				what := fmt.Sprintf("tree %d, in %d, %s", n, to, it.Key)
				root, e := d.Change(w.root, it.Key, func(leaf node.Node) (node.Node, api.Errno) { return leaf, api.OK })
				if e != api.OK {
					t.Fatalf("%s: error %d", what, e)
				}
				wantTree(t, what, d, to, root, all.Refs, w.items)
				if d.Many() > len(d.Gone()) {
					cut++
				}
			}
		}
	}
	if cut < 100 {
		t.Error("not often cut:", cut)
	}
}

// All in: a draft of nothing gets a thousand items in several orders, and gives them up in others.
func TestP144InAndOut(t *testing.T) {
	r := rand.New(rand.NewPCG(14, 444))
	for _, g := range allGens {
		for order := range 4 {
			d := mustNew(t, nodes{2: leaf("")}.source, g)
			var items []item.Item
			for k := range 600 {
				items = append(items, item.Of(fmt.Appendf(nil, "%05d", k), make([]byte, (k*7)%40)))
			}
			rest := slices.Clone(items)
			root := 2
			for _, k := range ordered(r, order, len(items)) {
				root, _ = d.Put(root, items[k])
			}
			wantTree(t, fmt.Sprintf("%d, in, order %d", g, order), d, g, root, []int{2}, items)
			for n, k := range ordered(r, (order+n3(g))%4, len(items)) {
				root, _, _ = d.Drop(root, items[k].Key)
				rest = slices.DeleteFunc(rest, func(it item.Item) bool { return item.Same(it, items[k]) })
				if n%50 == 0 || len(rest) < 5 {
					wantTree(t, fmt.Sprintf("%d, out, order %d, %d left", g, order, len(rest)), d, g, root, []int{2}, rest)
				}
			}
			if d.Many() != 1 {
				t.Errorf("%d, order %d: %d nodes are left", g, order, d.Many())
			}
		}
	}
}

func n3(g int) int { return g % 3 }

// ordered is 0 to many less 1: rising, falling, by chance, or from both ends.
func ordered(r *rand.Rand, order, many int) []int {
	l := r.Perm(many)
	switch order {
	case 0:
		slices.Sort(l)
	case 1:
		slices.Sort(l)
		slices.Reverse(l)
	case 2:
		for k := range l {
			l[k] = k / 2
			if k%2 == 1 {
				l[k] = many - 1 - k/2
			}
		}
	}
	return l
}

// A copy and what it was copied from go different ways; each is as its own model.
func TestP141CopiesApart(t *testing.T) {
	r := rand.New(rand.NewPCG(14, 1))
	for n := range 60 {
		w := grown(r, api.G1, 40, n%2 == 0)
		all, _ := tree.All(w.l.source, w.root)
		type one struct {
			d     *edit.Draft
			m     *model
			root  int
			items []item.Item
		}
		l := []one{{mustNew(t, w.l.source, api.G2), newModel(w.l.source, api.G2), w.root, w.items}}
		for k := range 60 {
			at := r.IntN(len(l))
			x := l[at]
			if k%15 == 3 {
				l = append(l, one{x.d.Copy(), x.m.copy(), x.root, x.items})
				continue
			}
			w.items = x.items
			l[at].root = w.step(t, fmt.Sprint("tree ", n), x.d, x.m, x.root, 5)
			l[at].items = w.items
			for i, x := range l {
				what := fmt.Sprintf("tree %d, step %d, draft %d", n, k, i)
				wantAsModel(t, what, x.d, x.m)
				wantTree(t, what, x.d, api.G2, x.root, all.Refs, x.items)
			}
		}
	}
}

// scribble writes into all that a node has, and into the room behind it.
func scribble(n node.Node) {
	items, kids := n.Items[:cap(n.Items)], n.Kids[:cap(n.Kids)]
	for k := range items {
		scrawl(items[k].Key)
		scrawl(items[k].Value)
		items[k] = item.Item{Ref: -99}
	}
	for k := range kids {
		scrawl(kids[k].Key)
		kids[k].Ref = -99
	}
}

func scrawl(b []byte) {
	for k := range b[:cap(b)] {
		b[:cap(b)][k] = '#'
	}
}

func clone(n node.Node) node.Node {
	own := node.Node{Leaf: n.Leaf}
	for _, it := range n.Items {
		own.Items = append(own.Items, item.Item{Key: bytes.Clone(it.Key), Value: bytes.Clone(it.Value), Size: it.Size, Ref: it.Ref})
	}
	for _, kid := range n.Kids {
		own.Kids = append(own.Kids, node.Kid{Key: bytes.Clone(kid.Key), Ref: kid.Ref})
	}
	return own
}

// What is told, and what was handed in, is written into: a draft and its source stay as they are.
func TestP14SharesNothing(t *testing.T) {
	l := nodes{}
	for ref, n := range tall() {
		l[ref] = clone(n)
	}
	d, m := mustNew(t, l.source, api.G1), newModel(tall().source, api.G1)
	root, want := 30, 30
	c := d.Copy()
	for k := range 200 {
		what := fmt.Sprint("step ", k)
		it := entryOf(string('a' + rune(k*5%23)))
		key := slices.Clone(it.Key)
		switch k % 3 {
		case 0:
			want, _ = m.put(want, item.Of(it.Key, it.Value))
			root, _ = d.Put(root, it)
		case 1:
			want, _, _ = m.drop(want, bytes.Clone(key))
			root, _, _ = d.Drop(root, key)
		case 2:
			n := node.Node{Leaf: true, Items: []item.Item{entryOf(string(key)), item.Of(append(key, 'z'), nil)}}
			want, _ = m.change(want, bytes.Clone(key), as(clone(n)))
			root, _ = d.Change(root, key, func(leaf node.Node) (node.Node, api.Errno) {
				scribble(leaf)
				return n, api.OK
			})
			scribble(n)
		}
		scribble(node.Node{Items: []item.Item{it}})
		scrawl(key)
		gone := d.Gone()
		for i := range gone {
			gone[i] = -7
		}
		for ref := m.last; ref < 40; ref++ {
			n, _ := d.Node(ref)
			scribble(n)
		}
		if root != want {
			t.Fatalf("%s: root %d, want %d", what, root, want)
		}
		wantAsModel(t, what, d, m)
		for ref, n := range tall() {
			if !node.Same(l[ref], n) {
				t.Fatalf("%s: the source's %d is %v", what, ref, l[ref])
			}
		}
	}
	wantOwn(t, "the copy", c, nil)
}

// A source, and f, may tell each node in the same memory: what was told ahead stays as it was.
func TestP14SameMemory(t *testing.T) {
	var told node.Node
	again := func(n node.Node) node.Node {
		scribble(told)
		told = clone(n)
		return told
	}
	src := func(ref int) (node.Node, api.Errno) {
		n, e := tall().source(ref)
		return again(n), e
	}
	d, m := mustNew(t, src, api.G1), newModel(tall().source, api.G1)
	root, want := 30, 30
	for k := range 60 {
		key := []byte{'a' + byte(k*5%16)}
		grow := func(leaf node.Node) (node.Node, api.Errno) {
			return putInto(leaf, item.Of(key, make([]byte, k%33))), api.OK
		}
		if k%3 == 1 {
			grow = as(node.Node{Leaf: true})
		}
		want, _ = m.change(want, key, grow)
		root, _ = d.Change(root, key, func(leaf node.Node) (node.Node, api.Errno) {
			n, e := grow(leaf)
			return again(n), e
		})
		if root != want {
			t.Fatalf("%d: root %d, want %d", k, root, want)
		}
		wantAsModel(t, fmt.Sprint(k), d, m)
	}
}

// The same calls tell the same.
func TestP14SameAgain(t *testing.T) {
	var first string
	for n := range 20 {
		r := rand.New(rand.NewPCG(14, 7))
		w := grown(r, api.G1, 60, true)
		d, m := mustNew(t, w.l.source, api.G3), newModel(w.l.source, api.G3)
		root := w.root
		for range 40 {
			root = w.step(t, "again", d, m, root, 4)
		}
		all, e := tree.All(d.Node, root)
		s := fmt.Sprint(root, all, e, d.Gone(), d.Many())
		if n == 0 {
			first = s
		}
		if s != first {
			t.Fatalf("%s, ahead %s", s, first)
		}
	}
}
