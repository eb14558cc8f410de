package cursor_test

import (
	"bytes"
	"fmt"
	"math/rand/v2"
	"slices"

	"regauge/api"
	"regauge/cursor"
	"regauge/item"
	"regauge/node"
)

// The model knows no nodes: it is a list of items, and a place in it.
type model struct {
	items []item.Item
	at    int // -1: nowhere
}

func newModel(items []item.Item) *model { return &model{items, -1} }

func (m *model) first() { m.at = min(0, len(m.items)-1) }
func (m *model) last()  { m.at = len(m.items) - 1 }

func (m *model) seek(key string) {
	m.at = slices.IndexFunc(m.items, func(it item.Item) bool { return string(it.Key) >= key })
}

func (m *model) next() {
	switch m.at {
	case -1:
		m.first()
	case len(m.items) - 1:
		m.at = -1
	default:
		m.at++
	}
}

func (m *model) prev() {
	if m.at < 0 {
		m.last()
		return
	}
	m.at--
}

func (m *model) here() (item.Item, bool) {
	if m.at < 0 {
		return item.Item{}, false
	}
	return m.items[m.at], true
}

// call is one of a cursor's, done upon a cursor and upon the model; and the numbers of the nodes that are in its way, wherever it comes to stand.
type call struct {
	name string
	do   func(c *cursor.Cursor) (item.Item, bool, api.Errno)
	as   func(m *model)
	way  func(p planted) []int
}

func noWay(p planted) []int { return nil }

var (
	first = call{"First", (*cursor.Cursor).First, (*model).first, noWay}
	last  = call{"Last", (*cursor.Cursor).Last, (*model).last, noWay}
	next  = call{"Next", (*cursor.Cursor).Next, (*model).next, noWay}
	prev  = call{"Prev", (*cursor.Cursor).Prev, (*model).prev, noWay}
)

func seek(key string) call {
	return call{
		fmt.Sprintf("Seek(%q)", key),
		func(c *cursor.Cursor) (item.Item, bool, api.Errno) { return c.Seek([]byte(key)) },
		func(m *model) { m.seek(key) },
		func(p planted) []int { return p.wayTo(key) },
	}
}

// wayTo is the numbers from the root to the leaf in which a key would be, by the words of layer 6.
func (p planted) wayTo(key string) []int {
	way := []int{p.root}
	for n := p.nodes[p.root]; !n.Leaf; n = p.nodes[way[len(way)-1]] {
		at := 0
		for k, kid := range n.Kids {
			if k > 0 && string(kid.Key) <= key {
				at = k
			}
		}
		way = append(way, n.Kids[at].Ref)
	}
	return way
}

// calls are all that there are, of these keys.
func calls(keys []string) []call {
	l := []call{first, last, next, prev}
	for _, key := range keys {
		l = append(l, seek(key))
	}
	return l
}

// around is these keys, and of each one that is less and one that is greater by as little as can be, and what is beyond all.
func around(items []item.Item) []string {
	l := []string{"", "\xff\xff\xff\xff"}
	for _, it := range items {
		key := string(it.Key)
		l = append(l, key, key+"\x00")
		if key != "" {
			l = append(l, key[:len(key)-1])
		}
	}
	slices.Sort(l)
	return slices.Compact(l)
}

type nodes map[int]node.Node

// source tells of other numbers an error that no layer's chapter lets a tree tell by itself.
func (l nodes) source(ref int) (node.Node, api.Errno) {
	if n, is := l[ref]; is {
		return n, api.OK
	}
	return node.Node{}, api.ErrRange
}

// planted is a tree, its root, and its items, as they were put in. Of each item there are the numbers from the root to its leaf.
type planted struct {
	nodes
	root  int
	items []item.Item
	ways  [][]int
}

// twig is a node that is to stand under a branch, and the first and last item below it.
type twig struct {
	ref      int
	from, to int
}

// planter makes a tree: number tells each node's number, key the Key between an item's and that of the one ahead.
type planter struct {
	p      *planted
	number func() int
	key    func(low, high []byte) []byte
}

func newPlanter(items []item.Item) planter {
	made := 0
	return planter{
		p:      &planted{nodes: nodes{}, items: items, ways: make([][]int, len(items))},
		number: func() int { made++; return made },
		key:    func(low, high []byte) []byte { return high },
	}
}

func (w planter) add(n node.Node, from, to int) twig {
	ref := w.number()
	w.p.nodes[ref] = n
	for k := from; k < to; k++ {
		w.p.ways[k] = append([]int{ref}, w.p.ways[k]...)
	}
	return twig{ref, from, to}
}

func (w planter) leaf(from, to int) twig {
	return w.add(node.Node{Leaf: true, Items: slices.Clone(w.p.items[from:to])}, from, to)
}

func (w planter) branch(row []twig) twig {
	n := node.Node{}
	for k, x := range row {
		kid := node.Kid{Ref: x.ref}
		if k > 0 {
			kid.Key = w.key(w.p.items[x.from-1].Key, w.p.items[x.from].Key)
		}
		n.Kids = append(n.Kids, kid)
	}
	return w.add(n, row[0].from, row[len(row)-1].to)
}

func (w planter) done(root twig) planted {
	w.p.root = root.ref
	return *w.p
}

// cuts is each way to cut many into pieces, of which each has least at least.
func cuts(many, least int) [][]int {
	if many == 0 {
		return [][]int{nil}
	}
	var l [][]int
	for piece := least; piece <= many; piece++ {
		for _, rest := range cuts(many-piece, least) {
			l = append(l, append([]int{piece}, rest...))
		}
	}
	return l
}

// shapes is each tree that has so many leaves, as how many nodes each branch of each floor has, from the leaves up.
func shapes(leaves int) [][][]int {
	if leaves == 1 {
		return [][][]int{nil}
	}
	var l [][][]int
	for _, floor := range cuts(leaves, 2) {
		for _, above := range shapes(len(floor)) {
			l = append(l, append([][]int{floor}, above...))
		}
	}
	return l
}

func (w planter) shape(leaves []int, floors [][]int) planted {
	var row []twig
	from := 0
	for _, many := range leaves {
		row = append(row, w.leaf(from, from+many))
		from += many
	}
	for _, floor := range floors {
		var above []twig
		for _, many := range floor {
			above = append(above, w.branch(row[:many]))
			row = row[many:]
		}
		row = above
	}
	return w.done(row[0])
}

// lettered is so many items, whose keys are b, d, f and so on.
func lettered(many int) []item.Item {
	var l []item.Item
	for k := range many {
		l = append(l, item.Of([]byte{byte('b' + 2*k)}, []byte{byte('A' + k)}))
	}
	return l
}

// small is each tree of so many items.
func small(many int) []planted {
	if many == 0 {
		w := newPlanter(nil)
		return []planted{w.done(w.leaf(0, 0))}
	}
	var l []planted
	for _, leaves := range cuts(many, 1) {
		for _, floors := range shapes(len(leaves)) {
			l = append(l, newPlanter(lettered(many)).shape(leaves, floors))
		}
	}
	return l
}

// chance is an item of a key, with any value, in the leaf, too long for it, or in pages of its own.
func chance(r *rand.Rand, key string) item.Item {
	it := item.Of([]byte(key), bytes.Repeat([]byte{byte(r.IntN(256))}, r.IntN(60)))
	if r.IntN(4) == 0 {
		it.Value, it.Size, it.Ref = nil, 33+r.IntN(300), 2+r.IntN(api.MaxPages-2)
	}
	return it
}

func chanceItems(r *rand.Rand, many int) []item.Item {
	met := map[string]int{}
	for len(met) < many {
		key := make([]byte, 1+r.IntN(3))
		for k := range key {
			key[k] = []byte{0, 1, 'a', 'b', 'c', 'y', 0xfe, 0xff}[r.IntN(8)]
		}
		met[string(key)] = 1
	}
	var l []item.Item
	for key := range met {
		l = append(l, item.Item{Key: []byte(key)})
	}
	slices.SortFunc(l, func(a, b item.Item) int { return bytes.Compare(a.Key, b.Key) })
	for k := range l {
		l[k] = chance(r, string(l[k].Key))
	}
	return l
}

// pieces is many cut by chance, each of least to most; the last one may be greater by less than least.
func pieces(r *rand.Rand, many, least, most int) []int {
	var l []int
	for many > 0 {
		piece := min(many, least+r.IntN(most-least+1))
		if many-piece < least {
			piece = many
		}
		l = append(l, piece)
		many -= piece
	}
	return l
}

// grown is a tree of items, nodes, Keys and numbers by chance.
func grown(seed uint64, many int) planted {
	r := rand.New(rand.NewPCG(seed, 15))
	w := newPlanter(chanceItems(r, many))
	used := map[int]int{}
	w.number = func() int {
		for {
			ref := []int{r.IntN(5000), -r.IntN(5000), int(r.Int64()), -int(r.Int64())}[r.IntN(4)]
			used[ref]++
			if used[ref] == 1 {
				return ref
			}
		}
	}
	w.key = func(low, high []byte) []byte {
		if r.IntN(2) == 0 {
			return append(slices.Clone(low), 0)
		}
		return high
	}
	leaves := pieces(r, many, 1, 1+r.IntN(6))
	var floors [][]int
	for row := len(leaves); row > 1; {
		floor := pieces(r, row, 2, 2+r.IntN(5))
		floors = append(floors, floor)
		row = len(floor)
	}
	return w.shape(leaves, floors)
}
