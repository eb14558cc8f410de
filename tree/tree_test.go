package tree_test

import (
	"fmt"
	"maps"
	"math"
	"math/rand/v2"
	"slices"
	"testing"

	"regauge/api"
	"regauge/item"
	"regauge/node"
	"regauge/tree"
)

func leaf(keys ...string) node.Node {
	n := node.Node{Leaf: true}
	for _, k := range keys {
		n.Items = append(n.Items, item.Of([]byte(k), []byte("v"+k)))
	}
	return n
}

// branch is a branch of a first kid, and of others, each behind its Key.
func branch(first int, others ...any) node.Node {
	n := node.Node{Kids: []node.Kid{{Ref: first}}}
	for k := 0; k < len(others); k += 2 {
		n.Kids = append(n.Kids, node.Kid{Key: []byte(others[k].(string)), Ref: others[k+1].(int)})
	}
	return n
}

// both is a node that has what only the other kind may have, too.
func both(isLeaf bool, items, kids node.Node) node.Node {
	return node.Node{Leaf: isLeaf, Items: items.Items, Kids: kids.Kids}
}

type nodes map[int]node.Node

// source tells of other numbers an error that no layer's chapter lets a tree tell by itself.
func (l nodes) source(ref int) (node.Node, api.Errno) {
	if n, is := l[ref]; is {
		return n, api.OK
	}
	return node.Node{}, api.ErrRange
}

// with is the same nodes, but for one.
func (l nodes) with(ref int, n node.Node) nodes {
	other := maps.Clone(l)
	other[ref] = n
	return other
}

func (l nodes) without(ref int) nodes {
	other := maps.Clone(l)
	delete(other, ref)
	return other
}

// asker is a source that notes of which numbers it is asked.
type asker struct {
	of    tree.Source
	asked []int
}

func (a *asker) source(ref int) (node.Node, api.Errno) {
	a.asked = append(a.asked, ref)
	return a.of(ref)
}

// three is a tree of three floors, whose first kids' subtrees have no Key of their own.
func three() nodes {
	return nodes{
		9: branch(7, "m", 8), 7: branch(2, "c", 3), 8: branch(4, "p", 5, "t", 6),
		2: leaf("a", "b"), 3: leaf("c", "l"), 4: leaf("m"), 5: leaf("q"), 6: leaf("x", "y", "z"),
	}
}

// stairs is so many branches, one under the other from number 0 on, whose two kids are the same one, and what stands below them.
func stairs(many int, end node.Node) nodes {
	l := nodes{many: end}
	for k := range many {
		l[k] = branch(k+1, "m", k+1)
	}
	return l
}

func sameStep(a, b tree.Step) bool {
	return a.Ref == b.Ref && a.K == b.K && node.Same(a.N, b.N)
}

func sameWhole(a, b tree.Whole) bool {
	return a.Depth == b.Depth && slices.Equal(a.Refs, b.Refs) && slices.EqualFunc(a.Items, b.Items, item.Same)
}

func wantSteps(t *testing.T, what string, l []tree.Step, e api.Errno, want []tree.Step, wantE api.Errno) {
	t.Helper()
	if e != wantE || !slices.EqualFunc(l, want, sameStep) {
		t.Fatalf("%s: %v, error %d; want %v, error %d", what, l, e, want, wantE)
	}
}

func wantItem(t *testing.T, what string, it item.Item, is bool, e api.Errno, want item.Item, wantIs bool, wantE api.Errno) {
	t.Helper()
	if e != wantE || is != wantIs || !item.Same(it, want) {
		t.Fatalf("%s: %v, %v, error %d; want %v, %v, error %d", what, it, is, e, want, wantIs, wantE)
	}
}

func wantWhole(t *testing.T, what string, w tree.Whole, e api.Errno, want tree.Whole, wantE api.Errno) {
	t.Helper()
	if e != wantE || !sameWhole(w, want) {
		t.Fatalf("%s: %v, error %d; want %v, error %d", what, w, e, want, wantE)
	}
}

// wantAsModel holds all that goes down from a root to these keys against the model.
func wantAsModel(t *testing.T, what string, src tree.Source, root int, keys []string) {
	t.Helper()
	for _, k := range keys {
		key := []byte(k)
		l, e := tree.Path(src, root, key)
		want, wantE := modelPath(src, root, key)
		wantSteps(t, what+": Path of "+k, l, e, want, wantE)
		it, is, e := tree.Get(src, root, key)
		wantIt, wantIs, wantE := modelGet(src, root, key)
		wantItem(t, what+": Get of "+k, it, is, e, wantIt, wantIs, wantE)
	}
	for _, last := range []bool{false, true} {
		l, e := tree.Edge(src, root, last)
		want, wantE := modelEdge(src, root, last)
		wantSteps(t, fmt.Sprintf("%s: Edge, last %v", what, last), l, e, want, wantE)
	}
}

// wantAllAsModel holds All against the model, and, if it is a tree, Get against its items. It tells All's error.
func wantAllAsModel(t *testing.T, what string, src tree.Source, root int, keys []string) api.Errno {
	t.Helper()
	a := asker{of: src}
	w, e := tree.All(a.source, root)
	want, wantAsked, wantE := modelAll(src, root)
	wantWhole(t, what+": All", w, e, want, wantE)
	if !slices.Equal(a.asked, wantAsked) && wantE == api.OK {
		t.Fatalf("%s: All asked of %v, want %v", what, a.asked, wantAsked)
	}
	if e == api.OK {
		wantJustItems(t, what, src, root, w.Items, keys)
	}
	return e
}

// wantJustItems holds what Get finds, of the items' keys and of others, against the items.
func wantJustItems(t *testing.T, what string, src tree.Source, root int, items []item.Item, keys []string) {
	t.Helper()
	for _, want := range items {
		it, is, e := tree.Get(src, root, want.Key)
		wantItem(t, what+": Get of an item's key", it, is, e, want, true, api.OK)
	}
	for _, k := range keys {
		at := slices.IndexFunc(items, func(it item.Item) bool { return string(it.Key) == k })
		if at >= 0 {
			continue
		}
		it, is, e := tree.Get(src, root, []byte(k))
		wantItem(t, what+": Get of "+k+", which is none's", it, is, e, item.Item{}, false, api.OK)
	}
}

func TestP131Path(t *testing.T) {
	l := three()
	for _, x := range []struct {
		key  string
		refs [3]int
		k    [3]int
		is   bool
	}{
		{"", [3]int{9, 7, 2}, [3]int{0, 0, 0}, false},
		{"a", [3]int{9, 7, 2}, [3]int{0, 0, 0}, true},
		{"aa", [3]int{9, 7, 2}, [3]int{0, 0, 1}, false},
		{"b", [3]int{9, 7, 2}, [3]int{0, 0, 1}, true},
		{"bz", [3]int{9, 7, 2}, [3]int{0, 0, 2}, false},
		{"c", [3]int{9, 7, 3}, [3]int{0, 1, 0}, true},
		{"lz", [3]int{9, 7, 3}, [3]int{0, 1, 2}, false},
		{"m", [3]int{9, 8, 4}, [3]int{1, 0, 0}, true},
		{"p", [3]int{9, 8, 5}, [3]int{1, 1, 0}, false},
		{"q", [3]int{9, 8, 5}, [3]int{1, 1, 0}, true},
		{"t", [3]int{9, 8, 6}, [3]int{1, 2, 0}, false},
		{"y", [3]int{9, 8, 6}, [3]int{1, 2, 1}, true},
		{"zz", [3]int{9, 8, 6}, [3]int{1, 2, 3}, false},
		{"\xff\xff\xff", [3]int{9, 8, 6}, [3]int{1, 2, 3}, false},
	} {
		var want []tree.Step
		for k, ref := range x.refs {
			want = append(want, tree.Step{Ref: ref, N: l[ref], K: x.k[k]})
		}
		path, e := tree.Path(l.source, 9, []byte(x.key))
		wantSteps(t, x.key, path, e, want, api.OK)
		var wantIt item.Item
		if x.is {
			wantIt = item.Of([]byte(x.key), []byte("v"+x.key))
		}
		it, is, e := tree.Get(l.source, 9, []byte(x.key))
		wantItem(t, x.key, it, is, e, wantIt, x.is, api.OK)
	}
}

func TestP131Edge(t *testing.T) {
	l := three()
	first, e := tree.Edge(l.source, 9, false)
	wantSteps(t, "first", first, e, []tree.Step{{Ref: 9, N: l[9]}, {Ref: 7, N: l[7]}, {Ref: 2, N: l[2]}}, api.OK)
	last, e := tree.Edge(l.source, 9, true)
	wantSteps(t, "last", last, e, []tree.Step{{Ref: 9, N: l[9], K: 1}, {Ref: 8, N: l[8], K: 2}, {Ref: 6, N: l[6], K: 2}}, api.OK)
	one := nodes{2: leaf()}
	for _, is := range []bool{false, true} {
		path, e := tree.Edge(one.source, 2, is)
		wantSteps(t, "an empty leaf", path, e, []tree.Step{{Ref: 2, N: one[2]}}, api.OK)
	}
}

// A node is a leaf if it says so: what it has of the other kind is no place to go to.
func TestP131BothKinds(t *testing.T) {
	items, kids := leaf("a", "b", "c", "d", "e"), branch(3, "b", 4)
	l := nodes{1: both(true, leaf("a"), branch(2, "b", 3, "c", 4)), 2: both(false, items, kids), 3: both(true, items, kids), 4: both(true, leaf(), kids), 5: both(false, items, node.Node{})}
	for root := range 7 {
		wantAsModel(t, fmt.Sprint("root ", root), l.source, root, []string{"", "a", "b", "c", "f"})
	}
}

func TestP131AnyNumber(t *testing.T) {
	refs := []int{math.MinInt, -2, -1, 0, 1, api.MaxPages, math.MaxInt}
	for k, ref := range refs {
		next := refs[(k+1)%len(refs)]
		l := nodes{ref: branch(next, "b", math.MaxInt-7), next: leaf("a"), math.MaxInt - 7: leaf("c")}
		wantAsModel(t, fmt.Sprint(ref), l.source, ref, []string{"", "a", "b", "c", "d"})
		w, e := tree.All(l.source, ref)
		wantWhole(t, fmt.Sprint(ref), w, e, tree.Whole{Items: leaf("a", "c").Items, Refs: []int{ref, next, math.MaxInt - 7}, Depth: 2}, api.OK)
	}
}

// Values in pages of their own have neither less nor more told of them.
func TestP131FarItems(t *testing.T) {
	far := item.Item{Key: []byte("b"), Size: 300, Ref: 12}
	n := leaf("a", "c")
	n.Items = slices.Insert(n.Items, 1, far)
	l := nodes{5: n}
	it, is, e := tree.Get(l.source, 5, []byte("b"))
	wantItem(t, "far", it, is, e, far, true, api.OK)
	w, e := tree.All(l.source, 5)
	wantWhole(t, "far", w, e, tree.Whole{Items: n.Items, Refs: []int{5}, Depth: 1}, api.OK)
}

// wantDown holds all three calls that go down, to a key on the first side, against one error.
func wantDown(t *testing.T, what string, src tree.Source, root int, wantE api.Errno) {
	t.Helper()
	l, e := tree.Path(src, root, []byte("a"))
	wantSteps(t, what+": Path", l, e, nil, wantE)
	it, is, e := tree.Get(src, root, []byte("a"))
	wantItem(t, what+": Get", it, is, e, item.Item{}, false, wantE)
	l, e = tree.Edge(src, root, false)
	wantSteps(t, what+": Edge", l, e, nil, wantE)
}

func TestP131Refused(t *testing.T) {
	wantDown(t, "no source", nil, 9, api.ErrArg)
	odd := func(ref int) (node.Node, api.Errno) { return leaf("a"), api.Errno(-7) }
	wantDown(t, "a leaf, and an error", odd, 9, api.Errno(-7))
	panics := func(ref int) (node.Node, api.Errno) { panic("no node") }
	wantDown(t, "a source that panics", panics, 9, api.ErrTreeForm)
	for _, x := range []struct {
		what string
		l    nodes
		e    api.Errno
	}{
		{"no root", nodes{}, api.ErrRange},
		{"no kid", nodes{9: {}}, api.ErrTreeForm},
		{"no kid, but items", nodes{9: both(false, leaf("a"), node.Node{})}, api.ErrTreeForm},
		{"no kid below", three().with(7, node.Node{}), api.ErrTreeForm},
		{"no leaf", three().without(2), api.ErrRange},
		{"round", nodes{9: branch(9, "m", 9)}, api.ErrTreeDeep},
		{"round by two", nodes{9: branch(8, "m", 8), 8: branch(9)}, api.ErrTreeDeep},
	} {
		wantDown(t, x.what, x.l.source, 9, x.e)
	}
	// What is not on the way is not asked for.
	for _, ref := range []int{3, 8, 4, 5, 6} {
		l := three().without(ref)
		path, e := tree.Path(l.source, 9, []byte("a"))
		if e != api.OK || len(path) != 3 {
			t.Errorf("without %d: error %d", ref, e)
		}
	}
}

func TestP131Deep(t *testing.T) {
	none := node.Node{}
	for many := range 15 {
		for _, x := range []struct {
			what string
			end  nodes
			e    api.Errno
		}{
			{"a leaf", stairs(many, leaf("a", "b")), api.OK},
			{"a branch without kids", stairs(many, none), api.ErrTreeForm},
			{"an error", stairs(many, none).without(many), api.ErrRange},
		} {
			want := x.e
			if many >= api.MaxDepth {
				want = api.ErrTreeDeep
			}
			what := fmt.Sprintf("%s below %d branches", x.what, many)
			a := asker{of: x.end.source}
			for _, call := range []func() ([]tree.Step, api.Errno){
				func() ([]tree.Step, api.Errno) { return tree.Path(a.source, 0, []byte("b")) },
				func() ([]tree.Step, api.Errno) { return tree.Edge(a.source, 0, false) },
				func() ([]tree.Step, api.Errno) { return tree.Edge(a.source, 0, true) },
			} {
				a.asked = nil
				l, e := call()
				if e != want || (e == api.OK) != (len(l) == many+1) || e != api.OK && len(l) != 0 {
					t.Errorf("%s: %d steps, error %d, want %d", what, len(l), e, want)
				}
				if len(a.asked) != min(many+1, api.MaxDepth) {
					t.Errorf("%s: asked of %v", what, a.asked)
				}
			}
			it, is, e := tree.Get(x.end.source, 0, []byte("b"))
			if e != want || is != (e == api.OK) || is != (string(it.Value) == "vb") {
				t.Errorf("%s: Get: %v, %v, error %d, want %d", what, it, is, e, want)
			}
		}
	}
}

func TestP132All(t *testing.T) {
	l := three()
	w, e := tree.All(l.source, 9)
	wantWhole(t, "three floors", w, e, tree.Whole{Items: leaf("a", "b", "c", "l", "m", "q", "x", "y", "z").Items, Refs: []int{9, 7, 2, 3, 8, 4, 5, 6}, Depth: 3}, api.OK)
	w, e = tree.All(l.source, 8)
	wantWhole(t, "a branch of it", w, e, tree.Whole{Items: leaf("m", "q", "x", "y", "z").Items, Refs: []int{8, 4, 5, 6}, Depth: 2}, api.OK)
	w, e = tree.All(l.source, 3)
	wantWhole(t, "a leaf of it", w, e, tree.Whole{Items: leaf("c", "l").Items, Refs: []int{3}, Depth: 1}, api.OK)
	empty := nodes{0: leaf()}
	w, e = tree.All(empty.source, 0)
	wantWhole(t, "no item", w, e, tree.Whole{Refs: []int{0}, Depth: 1}, api.OK)
	two := nodes{5: branch(2, "b", 3), 2: leaf("a"), 3: leaf("b")}
	w, e = tree.All(two.source, 5)
	wantWhole(t, "the chapter's example", w, e, tree.Whole{Items: leaf("a", "b").Items, Refs: []int{5, 2, 3}, Depth: 2}, api.OK)
}

// full is a tree of that depth, of two kids a branch, whose leaves have an item each.
func full(depth int) (nodes, int) {
	l := nodes{}
	var add func(depth, key, width int) int
	add = func(depth, key, width int) int {
		ref := len(l)
		l[ref] = leaf(word(key))
		if depth > 1 {
			l[ref] = node.Node{}
			first := add(depth-1, key, width/2)
			l[ref] = branch(first, word(key+width/2), add(depth-1, key+width/2, width/2))
		}
		return ref
	}
	return l, add(depth, 0, 1<<(depth-1))
}

func word(k int) string {
	return fmt.Sprintf("%05d", k)
}

func TestP132Deep(t *testing.T) {
	for depth := 1; depth <= 14; depth++ {
		l, root := full(depth)
		a := asker{of: l.source}
		w, e := tree.All(a.source, root)
		if depth > api.MaxDepth {
			wantWhole(t, fmt.Sprint(depth), w, e, tree.Whole{}, api.ErrTreeDeep)
			if len(a.asked) != api.MaxDepth {
				t.Errorf("%d deep: asked of %d", depth, len(a.asked))
			}
			continue
		}
		if e != api.OK || w.Depth != depth || len(w.Refs) != len(l) || len(w.Items) != 1<<(depth-1) {
			t.Errorf("%d deep: error %d, %d nodes, %d items, depth %d", depth, e, len(w.Refs), len(w.Items), w.Depth)
		}
	}
	// The branch that is as deep as may be is looked at ahead of its kids.
	for _, x := range []struct {
		last node.Node
		e    api.Errno
	}{
		{branch(50, "0", 51), api.ErrTreeDeep}, {branch(0, "0", 0), api.ErrTreeDeep}, {branch(50), api.ErrTreeForm},
		{branch(50, "0", 51, "0", 52), api.ErrTreeForm}, {node.Node{}, api.ErrTreeForm}, {leaf("0"), api.ErrRange},
	} {
		l := nodes{}
		for k := range api.MaxDepth - 1 {
			l[k] = branch(k+1, word(99-k), 100)
		}
		l[api.MaxDepth-1] = x.last
		if w, e := tree.All(l.source, 0); e != x.e || !sameWhole(w, tree.Whole{}) {
			t.Errorf("%v at the last depth: error %d, want %d", x.last, e, x.e)
		}
	}
}

func TestP132Refused(t *testing.T) {
	w, e := tree.All(nil, 9)
	wantWhole(t, "no source", w, e, tree.Whole{}, api.ErrArg)
	w, e = tree.All(func(ref int) (node.Node, api.Errno) { return leaf("a"), api.Errno(-7) }, 9)
	wantWhole(t, "a leaf, and an error", w, e, tree.Whole{}, api.Errno(-7))
	w, e = tree.All(func(ref int) (node.Node, api.Errno) { panic("no node") }, 9)
	wantWhole(t, "a source that panics", w, e, tree.Whole{}, api.ErrTreeForm)
	for ref := range three() {
		l := three().without(ref)
		w, e := tree.All(l.source, 9)
		wantWhole(t, fmt.Sprint("without ", ref), w, e, tree.Whole{}, api.ErrRange)
	}
	for k, x := range []struct {
		ref int
		n   node.Node
	}{
		// A number that is met twice.
		{7, branch(2, "c", 2)}, {9, branch(7, "m", 7)}, {8, branch(4, "p", 5, "t", 2)}, {7, branch(2, "c", 9)}, {8, branch(8, "p", 5)},
		// What is the other kind's.
		{2, both(true, leaf("a"), branch(3))}, {7, both(false, leaf("a"), branch(2, "c", 3))},
		// Too few kids, or no item.
		{7, branch(2)}, {7, node.Node{}}, {9, branch(7)}, {2, leaf()}, {6, leaf()},
		// Not as deep.
		{9, branch(7, "m", 4)}, {9, branch(2, "m", 8)}, {7, branch(2, "c", 8)}, {7, leaf("a")}, {8, leaf("m")},
		// A leaf's keys.
		{2, leaf("b", "a")}, {2, leaf("a", "a")}, {6, leaf("x", "y", "y")}, {6, leaf("x", "y", "xz")},
		{3, leaf("b", "l")}, {3, leaf("bz")}, {4, leaf("lz")}, {5, leaf("oz")}, {6, leaf("sz", "u")},
		{2, leaf("a", "c")}, {3, leaf("m")}, {3, leaf("c", "n")}, {4, leaf("p")}, {5, leaf("q", "t")},
		// A branch's.
		{8, branch(4, "t", 5, "p", 6)}, {8, branch(4, "p", 5, "p", 6)}, {8, branch(4, "lz", 5, "p", 6)}, {8, branch(4, "", 5, "p", 6)}, {8, branch(4, "p", 5, "", 6)},
		{7, branch(2, "m", 3)}, {7, branch(2, "c", 3, "m", 6)}, {7, branch(2, "n", 3)}, {9, branch(7, "", 8)},
	} {
		l := three().with(x.ref, x.n)
		w, e := tree.All(l.source, 9)
		wantWhole(t, fmt.Sprintf("case %d, of %d", k, x.ref), w, e, tree.Whole{}, api.ErrTreeForm)
	}
}

// Of several errors the one that is met first is told, node by node, each ahead of those below it.
func TestP132FirstError(t *testing.T) {
	for k, x := range []struct {
		l nodes
		e api.Errno
	}{
		{three().without(2).with(3, leaf()), api.ErrRange},
		{three().without(3).with(2, leaf()), api.ErrTreeForm},
		{three().without(7).with(9, branch(7)), api.ErrTreeForm},
		{three().without(7).with(9, branch(7, "m", 8, "a", 6)), api.ErrTreeForm},
		{three().without(7).with(8, branch(4)), api.ErrRange},
		{three().without(5).with(8, branch(4, "p", 5, "t", 4)), api.ErrRange},
		{three().without(6).with(8, branch(4, "p", 4, "t", 6)), api.ErrTreeForm},
		{three().without(4).with(9, branch(7, "m", 4)), api.ErrRange},
		{three().without(2).with(7, branch(2, "m", 3)), api.ErrTreeForm},
		{three().without(8).with(3, leaf("m")), api.ErrTreeForm},
		{three().without(8).with(7, leaf("a")), api.ErrRange},
		{three().with(2, branch(9, "b", 9)), api.ErrTreeForm},
	} {
		w, e := tree.All(x.l.source, 9)
		wantWhole(t, fmt.Sprint("case ", k), w, e, tree.Whole{}, x.e)
	}
	// One that changes its mind is asked again of a number that was met: its error is ahead of that.
	many := 0
	l := nodes{9: branch(2, "b", 2), 2: leaf("a")}
	w, e := tree.All(func(ref int) (node.Node, api.Errno) {
		if many++; many == 3 {
			return node.Node{}, api.ErrDown
		}
		return l.source(ref)
	}, 9)
	wantWhole(t, "an error at the second time", w, e, tree.Whole{}, api.ErrDown)
	// A number stands in one place only, even if another node is told of it there.
	many = 0
	w, e = tree.All(func(ref int) (node.Node, api.Errno) {
		if many++; many == 3 {
			return leaf("b"), api.OK
		}
		return l.source(ref)
	}, 9)
	wantWhole(t, "another node at the second time", w, e, tree.Whole{}, api.ErrTreeForm)
}

// The Key of a branch's first kid is of no account: nothing is held against it.
func TestP132FirstKidsKey(t *testing.T) {
	for _, key := range []string{"a", "b", "c", "m", "z"} {
		l := three()
		for _, ref := range []int{9, 7, 8} {
			n := branch(l[ref].Kids[0].Ref)
			n.Kids[0].Key = []byte(key)
			n.Kids = append(n.Kids, l[ref].Kids[1:]...)
			l[ref] = n
		}
		w, e := tree.All(l.source, 9)
		want, _ := tree.All(three().source, 9)
		wantWhole(t, key, w, e, want, api.OK)
		wantJustItems(t, key, l.source, 9, w.Items, []string{"", "aa", "n", "zz"})
	}
}

// menu is nodes of numbers 0 to 2, and one that is not there, right ones and others.
func menu() []node.Node {
	l := []node.Node{leaf(), leaf("a"), leaf("b"), leaf("c"), leaf("a", "b"), leaf("b", "c"), leaf("b", "a"), leaf("a", "a"), leaf(""), {}, branch(1), both(true, leaf("a"), branch(2)), both(false, leaf("a"), branch(1, "b", 2))}
	for ref := range 3 {
		for other := range 4 {
			for _, key := range []string{"", "a", "b", "c"} {
				l = append(l, branch(ref, key, other))
			}
		}
	}
	return append(l, branch(1, "b", 2, "c", 0), branch(1, "b", 2, "b", 2), branch(2, "c", 1, "a", 1))
}

func TestP132SmallTrees(t *testing.T) {
	l, keys := menu(), []string{"", "a", "aa", "b", "c", "d"}
	seen := map[api.Errno]int{}
	for _, n0 := range l {
		for _, n1 := range l {
			for _, n2 := range l {
				src := nodes{0: n0, 1: n1, 2: n2}.source
				seen[wantAllAsModel(t, fmt.Sprintf("%v; %v; %v", n0, n1, n2), src, 0, keys)]++
			}
		}
	}
	if seen[api.OK] < 50 || seen[api.ErrTreeForm] < 50 || seen[api.ErrRange] < 50 {
		t.Error("not all kinds of answers:", seen)
	}
}

// TestP131SmallWays goes down in all that can be made of the menu's nodes whose keys rise, trees or not.
func TestP131SmallWays(t *testing.T) {
	l := slices.DeleteFunc(menu(), func(n node.Node) bool { return len(n.Kids) > 2 || len(n.Items) > 1 && string(n.Items[1].Key) < "b" })
	seen := map[api.Errno]int{}
	for i, n0 := range l {
		for j, n1 := range l {
			n2 := l[(i*7+j*3)%len(l)]
			src := nodes{0: n0, 1: n1, 2: n2}.source
			wantAsModel(t, fmt.Sprintf("%v; %v; %v", n0, n1, n2), src, 0, []string{"", "a", "aa", "b", "c", "d"})
			_, e := tree.Edge(src, 0, true)
			seen[e]++
		}
	}
	if len(seen) != 4 {
		t.Error("not all kinds of answers:", seen)
	}
}

// grown is a tree of so many items, cut into leaves and branches by chance from a fixed seed.
func grown(r *rand.Rand, many int) (nodes, int) {
	l := nodes{}
	add := func(n node.Node) int {
		ref := r.IntN(1000)
		for _, is := l[ref]; is; _, is = l[ref] {
			ref = r.IntN(1000)
		}
		l[ref] = n
		return ref
	}
	var row []node.Kid
	for at := 0; at < many || len(row) == 0; {
		n := leaf()
		for range min(1+r.IntN(4), many-at) {
			n.Items = append(n.Items, item.Of([]byte(word(at*2+1)), []byte{byte(at)}))
			at++
		}
		key := word(at*2 - 2*len(n.Items))
		if len(n.Items) > 0 && r.IntN(2) == 0 {
			key = string(n.Items[0].Key)
		}
		row = append(row, node.Kid{Key: []byte(key), Ref: add(n)})
	}
	for len(row) > 1 {
		var next []node.Kid
		for len(row) > 0 {
			take := min(2+r.IntN(3), len(row))
			if len(row)-take == 1 {
				take++
			}
			kids := slices.Clone(row[:take])
			key := kids[0].Key
			kids[0].Key = nil
			next = append(next, node.Kid{Key: key, Ref: add(node.Node{Kids: kids})})
			row = row[take:]
		}
		row = next
	}
	return l, row[0].Ref
}

// spoil changes one thing of one node.
func spoil(r *rand.Rand, l nodes) {
	refs := slices.Sorted(maps.Keys(l))
	if len(refs) == 0 {
		return
	}
	ref := refs[r.IntN(len(refs))]
	n := node.Node{Leaf: l[ref].Leaf, Items: slices.Clone(l[ref].Items), Kids: slices.Clone(l[ref].Kids)}
	key := []byte(word(r.IntN(60)))
	switch {
	case r.IntN(8) == 0:
		delete(l, ref)
		return
	case r.IntN(8) == 0:
		n.Leaf = !n.Leaf
	case n.Leaf && len(n.Items) > 0 && r.IntN(3) == 0:
		n.Items = n.Items[1:]
	case n.Leaf && len(n.Items) > 0:
		k := r.IntN(len(n.Items))
		n.Items[k] = item.Of(key, nil)
	case len(n.Kids) > 0 && r.IntN(3) == 0:
		n.Kids = n.Kids[1:]
		if len(n.Kids) > 0 {
			n.Kids[0].Key = nil
		}
	case len(n.Kids) > 0 && r.IntN(2) == 0:
		n.Kids[r.IntN(len(n.Kids))].Ref = refs[r.IntN(len(refs))]
	case len(n.Kids) > 1:
		n.Kids[1+r.IntN(len(n.Kids)-1)].Key = key
	}
	l[ref] = n
}

func TestP133GrownTrees(t *testing.T) {
	r := rand.New(rand.NewPCG(13, 3))
	var keys []string
	for k := range 64 {
		keys = append(keys, word(k))
	}
	seen := map[api.Errno]int{}
	for n := range 4000 {
		l, root := grown(r, r.IntN(31))
		what := fmt.Sprint("tree ", n)
		if e := wantAllAsModel(t, what, l.source, root, keys); e != api.OK {
			t.Fatalf("%s: error %d", what, e)
		}
		wantAsModel(t, what, l.source, root, keys)
		for range 1 + r.IntN(2) {
			spoil(r, l)
		}
		seen[wantAllAsModel(t, what+", spoiled", l.source, root, keys)]++
	}
	if seen[api.OK] < 100 || seen[api.ErrTreeForm] < 100 || seen[api.ErrRange] < 100 {
		t.Error("not all kinds of answers:", seen)
	}
}

// scribble writes into all that a node has.
func scribble(n node.Node) {
	scribbleItems(n.Items)
	for k := range n.Kids {
		n.Kids[k].Key = append(n.Kids[k].Key[:0], '#')
		n.Kids[k].Ref = -99
	}
}

func scribbleItems(l []item.Item) {
	for k := range l {
		clearTo(l[k].Key, '#')
		clearTo(l[k].Value, '#')
		l[k].Ref = -99
	}
}

func clearTo(b []byte, c byte) {
	for k := range b {
		b[k] = c
	}
}

// What is told is the caller's own: to write into it changes neither the source's nodes nor what is told next.
func TestP13SharesNothing(t *testing.T) {
	l := three()
	same := func(what string) {
		t.Helper()
		for ref, n := range three() {
			if !node.Same(l[ref], n) {
				t.Fatalf("%s: node %d is %v", what, ref, l[ref])
			}
		}
	}
	for _, key := range []string{"a", "q", "zz"} {
		path, _ := tree.Path(l.source, 9, []byte(key))
		for _, s := range path {
			scribble(s.N)
		}
		same("Path")
		it, _, _ := tree.Get(l.source, 9, []byte(key))
		scribbleItems([]item.Item{it})
		same("Get")
	}
	for _, last := range []bool{false, true} {
		path, _ := tree.Edge(l.source, 9, last)
		for _, s := range path {
			scribble(s.N)
		}
		same("Edge")
	}
	w, _ := tree.All(l.source, 9)
	scribbleItems(w.Items)
	clear(w.Refs)
	same("All")
}

// A source may tell each node in the same memory: what was told ahead stays as it was.
func TestP13SameMemory(t *testing.T) {
	l := three()
	var told node.Node
	src := func(ref int) (node.Node, api.Errno) {
		scribble(told)
		n, e := l.source(ref)
		told = node.Node{Leaf: n.Leaf, Items: slices.Clone(n.Items), Kids: slices.Clone(n.Kids)}
		for k := range told.Items {
			told.Items[k].Key = slices.Clone(told.Items[k].Key)
			told.Items[k].Value = slices.Clone(told.Items[k].Value)
		}
		for k := range told.Kids {
			told.Kids[k].Key = slices.Clone(told.Kids[k].Key)
		}
		return told, e
	}
	w, e := tree.All(src, 9)
	want, wantE := tree.All(l.source, 9)
	wantWhole(t, "All", w, e, want, wantE)
	for _, key := range []string{"a", "q", "zz"} {
		path, e := tree.Path(src, 9, []byte(key))
		want, wantE := tree.Path(l.source, 9, []byte(key))
		wantSteps(t, key, path, e, want, wantE)
	}
}
