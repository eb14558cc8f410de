package tree_test

import (
	"bytes"
	"slices"

	"regauge/api"
	"regauge/item"
	"regauge/node"
	"regauge/tree"
)

// The model goes by the chapter's words, one after the other: it knows of each node all branches above it, and asks each of them.

// above is a branch on the way to a node, and the kid by which the way goes on.
type above struct {
	n node.Node
	k int
}

// stop is an error that the model has met.
type stop struct{ e api.Errno }

// modelWay goes down by the choice: a row of numbers, nodes and places.
func modelWay(src tree.Source, ref int, branch func(n node.Node) int, leaf func(n node.Node) int) ([]tree.Step, api.Errno) {
	var l []tree.Step
	for range 12 {
		n, e := src(ref)
		if e != api.OK {
			return nil, e
		}
		if n.Leaf {
			return append(l, tree.Step{Ref: ref, N: n, K: leaf(n)}), api.OK
		}
		if len(n.Kids) == 0 {
			return nil, api.ErrTreeForm
		}
		k := branch(n)
		l = append(l, tree.Step{Ref: ref, N: n, K: k})
		ref = n.Kids[k].Ref
	}
	return nil, api.ErrTreeDeep
}

// modelPath is Path of nodes whose keys rise.
func modelPath(src tree.Source, root int, key []byte) ([]tree.Step, api.Errno) {
	return modelWay(src, root, func(n node.Node) int {
		at := 0
		for k := range n.Kids {
			if k > 0 && bytes.Compare(n.Kids[k].Key, key) <= 0 {
				at = k
			}
		}
		return at
	}, func(n node.Node) int {
		less := 0
		for _, it := range n.Items {
			if bytes.Compare(it.Key, key) < 0 {
				less++
			}
		}
		return less
	})
}

func modelGet(src tree.Source, root int, key []byte) (item.Item, bool, api.Errno) {
	l, e := modelPath(src, root, key)
	if e != api.OK {
		return item.Item{}, false, e
	}
	for _, it := range l[len(l)-1].N.Items {
		if bytes.Equal(it.Key, key) {
			return it, true, api.OK
		}
	}
	return item.Item{}, false, api.OK
}

func modelEdge(src tree.Source, root int, last bool) ([]tree.Step, api.Errno) {
	pick := func(many int) int {
		if last && many > 0 {
			return many - 1
		}
		return 0
	}
	return modelWay(src, root, func(n node.Node) int { return pick(len(n.Kids)) }, func(n node.Node) int { return pick(len(n.Items)) })
}

// modelAll is All; beside it the numbers that the source is asked of.
func modelAll(src tree.Source, root int) (w tree.Whole, asked []int, e api.Errno) {
	defer func() {
		if x := recover(); x != nil {
			w, e = tree.Whole{}, x.(stop).e
		}
	}()
	var met []int
	var visit func(ref int, way []above)
	visit = func(ref int, way []above) {
		if len(way) >= 12 {
			panic(stop{api.ErrTreeDeep})
		}
		asked = append(asked, ref)
		n, e := src(ref)
		if e != api.OK {
			panic(stop{e})
		}
		if slices.Contains(met, ref) || !modelMayStand(n, way) {
			panic(stop{api.ErrTreeForm})
		}
		met = append(met, ref)
		if n.Leaf {
			if w.Depth != 0 && w.Depth != len(way)+1 {
				panic(stop{api.ErrTreeForm})
			}
			w.Depth = len(way) + 1
		}
		w.Refs = append(w.Refs, ref)
		w.Items = append(w.Items, n.Items...)
		for k, kid := range n.Kids {
			visit(kid.Ref, append(slices.Clone(way), above{n, k}))
		}
	}
	visit(root, nil)
	return w, asked, api.OK
}

func modelMayStand(n node.Node, way []above) bool {
	if n.Leaf && len(n.Kids) > 0 || !n.Leaf && len(n.Items) > 0 {
		return false
	}
	if !n.Leaf && len(n.Kids) < 2 || n.Leaf && len(way) > 0 && len(n.Items) == 0 {
		return false
	}
	var keys [][]byte
	for _, it := range n.Items {
		keys = append(keys, it.Key)
	}
	for k, kid := range n.Kids {
		if k > 0 {
			keys = append(keys, kid.Key)
		}
	}
	for k, key := range keys {
		if k > 0 && bytes.Compare(keys[k-1], key) >= 0 || !modelUnder(key, way) {
			return false
		}
	}
	return true
}

// modelUnder tells whether a key may be under each of those branches' kids.
func modelUnder(key []byte, way []above) bool {
	for _, up := range way {
		if up.k > 0 && bytes.Compare(key, up.n.Kids[up.k].Key) < 0 {
			return false
		}
		if up.k+1 < len(up.n.Kids) && bytes.Compare(key, up.n.Kids[up.k+1].Key) >= 0 {
			return false
		}
	}
	return true
}
