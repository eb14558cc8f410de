package edit_test

import (
	"bytes"
	"maps"
	"slices"

	"regauge/api"
	"regauge/item"
	"regauge/node"
	"regauge/tree"
)

// The model goes by the chapter's words upon plain rows: it knows nothing of how nodes are found, cut and joined elsewhere.

// entry is an item of a leaf, or a kid of a branch.
type entry struct {
	key []byte
	it  item.Item
	ref int
}

// row is what a node has.
type row struct {
	leaf bool
	l    []entry
}

func rowOf(n node.Node) row {
	r := row{leaf: n.Leaf}
	for _, it := range n.Items {
		if n.Leaf {
			r.l = append(r.l, entry{key: it.Key, it: it})
		}
	}
	for _, kid := range n.Kids {
		if !n.Leaf {
			r.l = append(r.l, entry{key: kid.Key, ref: kid.Ref})
		}
	}
	return r
}

func (r row) node() node.Node {
	n := node.Node{Leaf: r.leaf}
	for _, x := range r.l {
		if r.leaf {
			n.Items = append(n.Items, x.it)
		} else {
			n.Kids = append(n.Kids, node.Kid{Key: x.key, Ref: x.ref})
		}
	}
	return n
}

// modelCap and modelId are the chapter's table of layer 5.
func modelCap(g int) int { return []int{0, 248, 240, 240}[g] }
func modelId(g int) int  { return []int{0, 4, 8, 8}[g] }

func (r row) rooms(g int) []int {
	var l []int
	for _, x := range r.l {
		switch {
		case !r.leaf:
			l = append(l, 1+len(x.key)+modelId(g))
		case x.it.Ref != 0 || len(x.it.Value) > 32:
			l = append(l, 4+len(x.key)+modelId(g))
		default:
			l = append(l, 4+len(x.key)+len(x.it.Value))
		}
	}
	return l
}

func total(l []int) int {
	n := 0
	for _, x := range l {
		n += x
	}
	return n
}

// cut is the pieces, each under its key.
func (r row) cut(g int, key []byte) (keys [][]byte, pieces []row) {
	rooms := r.rooms(g)
	if total(rooms) <= modelCap(g) || len(r.l) < 2 {
		return [][]byte{key}, []row{r}
	}
	at := 1
	for at < len(r.l)-1 && 2*total(rooms[:at]) < total(rooms) {
		at++
	}
	second := row{r.leaf, slices.Clone(r.l[at:])}
	middle := second.l[0].key
	if !r.leaf {
		second.l[0].key = nil
	}
	keys, pieces = row{r.leaf, r.l[:at]}.cut(g, key)
	moreKeys, more := second.cut(g, middle)
	return slices.Concat(keys, moreKeys), slices.Concat(pieces, more)
}

// model is a draft. Of what is gone it keeps the number alone.
type model struct {
	src  tree.Source
	g    int
	own  map[int]node.Node
	last int
	gone map[int]bool
}

func newModel(src tree.Source, g int) *model {
	return &model{src: src, g: g, own: map[int]node.Node{}, gone: map[int]bool{}}
}

func (m *model) copy() *model {
	return &model{m.src, m.g, maps.Clone(m.own), m.last, maps.Clone(m.gone)}
}

func (m *model) node(ref int) (node.Node, api.Errno) {
	if ref >= 0 {
		return m.src(ref)
	}
	if n, is := m.own[ref]; is {
		return n, api.OK
	}
	return node.Node{}, api.ErrTreeForm
}

func (m *model) make(r row) int {
	m.last--
	m.own[m.last] = r.node()
	return m.last
}

func (m *model) forget(ref int) {
	if ref < 0 {
		delete(m.own, ref)
	} else {
		m.gone[ref] = true
	}
}

// kids makes nodes of all pieces.
func (m *model) kids(r row, key []byte) []entry {
	var l []entry
	keys, pieces := r.cut(m.g, key)
	for k, p := range pieces {
		l = append(l, entry{key: keys[k], ref: m.make(p)})
	}
	return l
}

// modelStep is a node on the way down.
type modelStep struct {
	ref int
	row row
	k   int
}

func (m *model) path(ref int, key []byte) ([]modelStep, node.Node, api.Errno) {
	var way []modelStep
	for range 12 {
		n, e := m.node(ref)
		if e != api.OK {
			return nil, n, e
		}
		s := modelStep{ref: ref, row: rowOf(n)}
		if n.Leaf {
			return append(way, s), n, api.OK
		}
		if len(n.Kids) == 0 {
			return nil, n, api.ErrTreeForm
		}
		for k := range n.Kids {
			if k > 0 && bytes.Compare(n.Kids[k].Key, key) <= 0 {
				s.k = k
			}
		}
		way = append(way, s)
		ref = n.Kids[s.k].Ref
	}
	return nil, node.Node{}, api.ErrTreeDeep
}

// change is Change of nodes whose keys rise: with an error the model is as it was.
func (m *model) change(root int, key []byte, f func(leaf node.Node) (node.Node, api.Errno)) (int, api.Errno) {
	was := m.copy()
	next, e := m.changed(root, key, f)
	if e != api.OK {
		*m = *was
		return 0, e
	}
	return next, api.OK
}

func (m *model) changed(root int, key []byte, f func(leaf node.Node) (node.Node, api.Errno)) (int, api.Errno) {
	if f == nil {
		return 0, api.ErrArg
	}
	way, leaf, e := m.path(root, key)
	if e != api.OK {
		return 0, e
	}
	n, e := f(leaf)
	if e != api.OK {
		return 0, e
	}
	r := rowOf(n)
	for level := len(way) - 2; level >= 0; level-- {
		if r, e = m.above(way[level], r); e != api.OK {
			return 0, e
		}
	}
	m.forget(root)
	for depth := len(way); ; depth++ {
		if !r.leaf && len(r.l) == 1 {
			return m.lone(r.l[0].ref)
		}
		l := m.kids(r, nil)
		if len(l) == 1 {
			return l[0].ref, api.OK
		}
		if depth == 12 {
			return 0, api.ErrTreeDeep
		}
		r = row{false, l}
	}
}

// above is the branch above r, with what stands in its place.
func (m *model) above(s modelStep, r row) (row, api.Errno) {
	from, to := s.k, s.k+1
	if 3*total(r.rooms(m.g)) < modelCap(m.g) && len(s.row.l) > 1 {
		if s.k > 0 {
			from--
		} else {
			to++
		}
		rows := []row{r, r}
		for k := from; k < to; k++ {
			if k == s.k {
				continue
			}
			n, e := m.node(s.row.l[k].ref)
			if e != api.OK {
				return row{}, e
			}
			if n.Leaf != r.leaf {
				return row{}, api.ErrTreeForm
			}
			rows[k-from] = rowOf(n)
		}
		second := slices.Clone(rows[1].l)
		if !r.leaf && len(second) > 0 {
			second[0].key = s.row.l[from+1].key
		}
		r = row{r.leaf, slices.Concat(rows[0].l, second)}
	}
	l := m.kids(r, s.row.l[from].key)
	for _, x := range s.row.l[from:to] {
		m.forget(x.ref)
	}
	return row{false, slices.Concat(s.row.l[:from], l, s.row.l[to:])}, api.OK
}

// lone is the root that is left under a branch with that kid alone.
func (m *model) lone(ref int) (int, api.Errno) {
	for range 12 {
		n, e := m.node(ref)
		if e != api.OK {
			return 0, e
		}
		if n.Leaf || len(n.Kids) != 1 {
			return ref, api.OK
		}
		m.forget(ref)
		ref = n.Kids[0].Ref
	}
	return 0, api.ErrTreeDeep
}

func (m *model) put(root int, it item.Item) (int, api.Errno) {
	return m.change(root, it.Key, func(leaf node.Node) (node.Node, api.Errno) {
		return putInto(leaf, it), api.OK
	})
}

// putInto is a leaf with an item.
func putInto(leaf node.Node, it item.Item) node.Node {
	n := node.Node{Leaf: true}
	for _, x := range leaf.Items {
		if bytes.Compare(x.Key, it.Key) < 0 {
			n.Items = append(n.Items, x)
		}
	}
	n.Items = append(n.Items, it)
	for _, x := range leaf.Items {
		if bytes.Compare(x.Key, it.Key) > 0 {
			n.Items = append(n.Items, x)
		}
	}
	return n
}

func (m *model) drop(root int, key []byte) (int, bool, api.Errno) {
	_, leaf, e := m.path(root, key)
	if e != api.OK {
		return 0, false, e
	}
	n := node.Node{Leaf: true}
	for _, x := range leaf.Items {
		if !bytes.Equal(x.Key, key) {
			n.Items = append(n.Items, x)
		}
	}
	if len(n.Items) == len(leaf.Items) {
		return root, false, api.OK
	}
	next, e := m.change(root, key, func(node.Node) (node.Node, api.Errno) { return n, api.OK })
	return next, e == api.OK, e
}
