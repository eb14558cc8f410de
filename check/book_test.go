package check_test

import (
	"bytes"
	"fmt"
	"math/rand/v2"
	"slices"
	"testing"

	"regauge/api"
	"regauge/check"
	"regauge/disk"
	"regauge/item"
	"regauge/meta"
	"regauge/node"
	"regauge/over"
	"regauge/page"
	"regauge/pager"
	"regauge/run"
	"regauge/shelf"
	"regauge/tree"
)

// book is pages' bytes, by their numbers; a page that it does not have is zeros.
type book map[int][]byte

func must(e api.Errno, what ...any) {
	if e != api.OK {
		panic(fmt.Sprint("the test's own page can't be: ", e, what))
	}
}

func encoded(m meta.Meta) []byte {
	b, e := meta.Encode(m)
	must(e, m)
	return b
}

// meta puts a meta where it stands, and the same one, but for its Txid, ahead of it.
func (b book) meta(m meta.Meta) book {
	ahead := m
	ahead.Txid--
	b[meta.Slot(m.Txid)], b[meta.Slot(ahead.Txid)] = encoded(m), encoded(ahead)
	return b
}

func (b book) node(g, id int, n node.Node) book {
	of, e := page.Encode(g, n)
	must(e, n)
	b[id] = of
	return b
}

func (b book) value(g int, value []byte, ids ...int) book {
	l, e := over.Encode(g, value, ids)
	must(e, len(value), ids)
	for k, id := range ids {
		b[id] = l[k]
	}
	return b
}

func (b book) list(g int, s shelf.State, ids ...int) book {
	l, e := shelf.Encode(g, s, ids)
	must(e, s, ids)
	for k, id := range ids {
		b[id] = l[k]
	}
	return b
}

func (b book) copy() book {
	c := book{}
	for id, of := range b {
		c[id] = slices.Clone(of)
	}
	return c
}

// image is the bytes of so many pages.
func (b book) image(pages int) []byte {
	image := make([]byte, pages*api.Page)
	for id, of := range b {
		if id < pages {
			copy(image[id*api.Page:], of)
		}
	}
	return image
}

func (b book) pager(pages int) *pager.Pager {
	return loaded(b.image(pages))
}

func loaded(image []byte) *pager.Pager {
	return pager.New(disk.Load(image, api.MaxDisk))
}

// down is a pager of a disk with the same bytes that is down.
func down(p *pager.Pager) *pager.Pager {
	d := p.Disk().Copy()
	d.Arm(0)
	d.Sync()
	return pager.New(d)
}

func leaf(items ...item.Item) node.Node {
	return node.Node{Leaf: true, Items: items}
}

func near(key, value string) item.Item {
	return item.Of([]byte(key), []byte(value))
}

func far(key string, size, ref int) item.Item {
	return item.Item{Key: []byte(key), Size: size, Ref: ref}
}

// branch is a branch of a first kid, and of others, each behind its Key.
func branch(first int, others ...any) node.Node {
	n := node.Node{Kids: []node.Kid{{Ref: first}}}
	for k := 0; k < len(others); k += 2 {
		n.Kids = append(n.Kids, node.Kid{Key: []byte(others[k].(string)), Ref: others[k+1].(int)})
	}
	return n
}

// text is a value of so many bytes, of no two sizes or seeds alike.
func text(seed, size int) []byte {
	r := rand.New(rand.NewPCG(uint64(seed), uint64(size)))
	b := make([]byte, size)
	for k := range b {
		b[k] = byte(r.Uint32())
	}
	return b
}

func runs(pages ...int) []run.Run {
	return run.Of(pages)
}

// whole is a file that is as it should be, and what is to be told of it.
type whole struct {
	b      book
	report check.Report
	pairs  []check.Pair
}

func (w whole) pager() *pager.Pager {
	return w.b.pager(w.report.M.Pages)
}

// sample is a file of all that there is: it moves from G1 to G3, and has nodes, values and a list of both.
func sample() whole {
	m := meta.Meta{Gen: api.G1, Phase: meta.Moving, Target: api.G3, Txid: 7, Root: 9, Pages: 24, List: 22, Cursor: []byte("b")}
	l := []item.Item{near("a", "A"), far("b", 300, 12), near("c", ""), far("m", 1600, 14), near("n", "N"), far("o", 33, 3)}
	s := shelf.State{Free: runs(2, 7, 8, 23), Held: runs(10, 11, 13, 21)}
	vb, vm, vo := text(1, 300), text(2, 1600), text(3, 33)
	b := book{}.meta(m).node(api.G3, 9, branch(4, "m", 6)).node(api.G1, 4, leaf(l[:3]...)).node(api.G3, 6, leaf(l[3:]...))
	b.value(api.G1, vb, 12, 5).value(api.G3, vm, 14, 15, 16, 17, 18, 19, 20).value(api.G1, vo, 3).list(api.G1, s, 22)
	return whole{b, check.Report{
		M: m, Slot: 1, Tree: tree.Whole{Items: l, Refs: []int{9, 4, 6}, Depth: 2},
		Over: []int{12, 5, 14, 15, 16, 17, 18, 19, 20, 3}, List: []int{22}, S: s, Old: 5,
	}, []check.Pair{
		{Key: []byte("a"), Value: []byte("A")}, {Key: []byte("b"), Value: vb}, {Key: []byte("c")},
		{Key: []byte("m"), Value: vm}, {Key: []byte("n"), Value: []byte("N")}, {Key: []byte("o"), Value: vo},
	}}
}

// created is a file as it is when it is new.
func created(g int) whole {
	m := meta.Meta{Gen: g, Txid: 2, Root: 2, Pages: 3}
	return whole{book{}.meta(m).node(g, 2, leaf()), check.Report{M: m, Tree: tree.Whole{Refs: []int{2}, Depth: 1}}, nil}
}

// maker makes a file by chance: pages are laid from 2 on, with gaps, some of which get something later.
type maker struct {
	*rand.Rand
	whole
	gaps []int
}

func newMaker(seed int) *maker {
	k := &maker{Rand: rand.New(rand.NewPCG(uint64(seed), 16))}
	k.b = book{}
	m := &k.report.M
	m.Gen, m.Txid, m.Pages = 1+k.IntN(3), 2+k.IntN(50), 2
	if m.Gen < api.G3 && k.IntN(3) > 0 {
		m.Phase, m.Target = meta.Moving, m.Gen+1+k.IntN(api.G3-m.Gen)
		m.Cursor = text(seed, k.IntN(item.MaxKey(m.Target)+1))
	}
	return k
}

// gen is a generation that may stand.
func (k *maker) gen() int {
	if m := k.report.M; k.IntN(2) == 0 {
		return m.Gen
	}
	return meta.Write(k.report.M)
}

// take is n pages, one behind the other.
func (k *maker) take(n int) []int {
	if n == 1 && len(k.gaps) > 0 && k.IntN(2) == 0 {
		at := k.IntN(len(k.gaps))
		id := k.gaps[at]
		k.gaps = slices.Delete(k.gaps, at, at+1)
		return []int{id}
	}
	next := &k.report.M.Pages
	for k.IntN(3) == 0 {
		k.gaps = append(k.gaps, *next)
		*next++
	}
	var ids []int
	for range n {
		ids = append(ids, *next)
		*next++
	}
	return ids
}

// pages is n pages, anywhere, or one behind the other.
func (k *maker) pages(n int, anywhere bool) []int {
	if !anywhere {
		return k.take(n)
	}
	var ids []int
	for range n {
		ids = append(ids, k.take(1)...)
	}
	return ids
}

// age counts pages that are old.
func (k *maker) age(g, pages int) {
	if g != meta.Write(k.report.M) {
		k.report.Old += pages
	}
}

// keys are so many keys, rising, of the length that they may have at most.
func (k *maker) keys(many, long int) [][]byte {
	met := map[string]bool{}
	for len(met) < many {
		met[string(text(k.Int(), 1+k.IntN(long)))] = true
	}
	var l [][]byte
	for key := range met {
		l = append(l, []byte(key))
	}
	slices.SortFunc(l, bytes.Compare)
	return l
}

// put makes an item, which gets pages of its own if it is far.
func (k *maker) put(key []byte) {
	g := k.gen()
	size := []int{0, 1, 5, api.Inline, api.Inline + 1, 100, item.Cap(g), item.Cap(g) + 1, item.MaxValue(g)}[k.IntN(9)]
	value := text(k.Int(), size)
	it := item.Of(key, value)
	if item.Far(it) {
		ids := k.pages(over.Many(g, size), over.Single(g))
		k.b.value(g, value, ids...)
		k.age(g, len(ids))
		k.report.Over = append(k.report.Over, ids...)
		it = far(string(key), size, ids[0])
	}
	k.report.Tree.Items = append(k.report.Tree.Items, it)
	k.pairs = append(k.pairs, check.Pair{Key: key, Value: value})
}

// low is a node that was made, the first key under it, and the numbers of all that is under it.
type low struct {
	key  []byte
	refs []int
}

// save lays a node, in a generation in which it may be.
func (k *maker) save(n node.Node, key []byte, below ...int) low {
	g := k.gen()
	if _, e := page.Encode(g, n); e != api.OK {
		g = meta.Write(k.report.M)
	}
	id := k.take(1)[0]
	k.b.node(g, id, n)
	k.age(g, 1)
	return low{key, slices.Concat([]int{id}, below)}
}

// leaves lays all items.
func (k *maker) leaves() []low {
	items := k.report.Tree.Items
	if len(items) == 0 {
		return []low{k.save(leaf(), nil)}
	}
	var l []low
	for len(items) > 0 {
		n := min(1+k.IntN(4), len(items))
		l = append(l, k.save(leaf(items[:n]...), items[0].Key))
		items = items[n:]
	}
	return l
}

// above lays branches over a row of nodes.
func (k *maker) above(row []low) []low {
	var l []low
	for len(row) > 0 {
		n := min(2+k.IntN(3), len(row))
		if len(row)-n == 1 {
			n = len(row)
		}
		b := node.Node{}
		var below []int
		for at, x := range row[:n] {
			kid := node.Kid{Ref: x.refs[0]}
			if at > 0 {
				kid.Key = x.key
			}
			b.Kids, below = append(b.Kids, kid), append(below, x.refs...)
		}
		l = append(l, k.save(b, row[0].key, below...))
		row = row[n:]
	}
	return l
}

// rest has what is left of all pages be free, or held, or the list; false, if no list has room there.
func (k *maker) rest() bool {
	r := &k.report
	for n := range len(k.gaps) + 1 {
		k.Shuffle(len(k.gaps), func(a, b int) { k.gaps[a], k.gaps[b] = k.gaps[b], k.gaps[a] })
		ids, left := k.gaps[:n], k.gaps[n:]
		cut := k.IntN(len(left) + 1)
		g, s := k.gen(), shelf.State{Free: runs(left[:cut]...), Held: runs(left[cut:]...)}
		if shelf.Need(g, s) == n && (n > 0 || len(left) == 0) {
			k.b.list(g, s, ids...)
			k.age(g, n)
			r.S, r.List, r.M.List = s, slices.Clone(ids), shelf.First(g, ids)
			return true
		}
	}
	return false
}

// made is a file by chance, of so many items.
func made(seed, many int) whole {
	k := newMaker(seed)
	for _, key := range k.keys(many, item.MaxKey(meta.Write(k.report.M))) {
		k.put(key)
	}
	row := k.leaves()
	depth := 1
	for ; len(row) > 1; depth++ {
		row = k.above(row)
	}
	k.report.Tree.Refs, k.report.Tree.Depth, k.report.M.Root = row[0].refs, depth, row[0].refs[0]
	for range k.IntN(3) * k.IntN(45) {
		k.gaps = append(k.gaps, k.take(1+k.IntN(2))...)
	}
	for !k.rest() {
		k.gaps = append(k.gaps, k.report.M.Pages)
		k.report.M.Pages++
	}
	k.b.meta(k.report.M)
	k.report.Slot = meta.Slot(k.report.M.Txid)
	return k.whole
}

func sameTree(a, b tree.Whole) bool {
	return a.Depth == b.Depth && slices.Equal(a.Refs, b.Refs) && slices.EqualFunc(a.Items, b.Items, item.Same)
}

func sameReport(a, b check.Report) bool {
	return meta.Same(a.M, b.M) && a.Slot == b.Slot && sameTree(a.Tree, b.Tree) && slices.Equal(a.Over, b.Over) &&
		slices.Equal(a.List, b.List) && shelf.Same(a.S, b.S) && a.Old == b.Old
}

func samePairs(a, b []check.Pair) bool {
	return slices.EqualFunc(a, b, func(a, b check.Pair) bool { return bytes.Equal(a.Key, b.Key) && bytes.Equal(a.Value, b.Value) })
}

// wantLook holds a report against the one that is to be told, and its pages against what follows of each report.
func wantLook(t *testing.T, what string, p *pager.Pager, want check.Report, wantE api.Errno) {
	t.Helper()
	r, e := check.Look(p)
	if e != wantE || !sameReport(r, want) {
		t.Fatalf("%s: Look tells %v, error %d; want %v, error %d", what, r, e, want, wantE)
	}
	if e == api.OK {
		wantNothingLost(t, what, r)
	}
}

// wantNothingLost holds each page of a file against all that a report tells of it (P16.4).
func wantNothingLost(t *testing.T, what string, r check.Report) {
	t.Helper()
	all := slices.Concat([]int{0, 1}, r.Tree.Refs, r.Over, r.List, run.Pages(r.S.Free), run.Pages(r.S.Held))
	slices.Sort(all)
	if len(all) != r.M.Pages {
		t.Fatalf("%s: %d pages are told of %d", what, len(all), r.M.Pages)
	}
	for id, at := range all {
		if id != at {
			t.Fatalf("%s: page %d is lost, or in two places: %v", what, id, all)
		}
	}
}

func wantCorrupt(t *testing.T, what string, p *pager.Pager) {
	t.Helper()
	wantLook(t, what, p, check.Report{}, api.ErrTxnCorrupt)
}

func wantMap(t *testing.T, what string, p *pager.Pager, r check.Report, want []check.Pair, wantE api.Errno) {
	t.Helper()
	if l, e := check.Map(p, r); e != wantE || !samePairs(l, want) {
		t.Fatalf("%s: Map tells %v, error %d; want %v, error %d", what, l, e, want, wantE)
	}
}
