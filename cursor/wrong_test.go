package cursor_test

import (
	"bytes"
	"fmt"
	"maps"
	"math/rand/v2"
	"slices"
	"testing"

	"regauge/api"
	"regauge/cursor"
	"regauge/item"
	"regauge/node"
	"regauge/tree"
)

// wantLossy does a call of a cursor whose source lacks a node of p: an error is told just where that one is in the way.
func wantLossy(t *testing.T, what string, c *cursor.Cursor, m *model, p planted, lost int, x call) {
	t.Helper()
	x.as(m)
	way := x.way(p)
	if m.at >= 0 {
		way = append(way, p.ways[m.at]...)
	}
	if slices.Contains(way, lost) {
		m.at = -1
		wantError(t, what, c, x, api.ErrRange)
		return
	}
	want, wantIs := m.here()
	it, is, e := x.do(c)
	wantItem(t, what+": "+x.name, it, is, e, want, wantIs, api.OK)
}

// without is the same nodes, but for one.
func (l nodes) without(ref int) nodes {
	other := maps.Clone(l)
	delete(other, ref)
	return other
}

// All trees of up to five items, each of whose nodes is lost in turn: all rows of two calls from each place that can be reached.
func TestP151Lost(t *testing.T) {
	for many := 1; many <= 5; many++ {
		for k, p := range small(many) {
			for lost := range p.nodes {
				l := p.without(lost)
				all := calls(around(p.items))
				for _, x := range all {
					for _, y := range all {
						for _, z := range []call{next, prev} {
							c, m := mustNew(t, l.source, p.root), newModel(p.items)
							what := fmt.Sprint("tree ", k, " of ", many, " without ", lost)
							wantLossy(t, what, c, m, p, lost, x)
							wantLossy(t, what+", "+x.name, c, m, p, lost, y)
							wantLossy(t, what+", "+x.name+", "+y.name, c, m, p, lost, z)
						}
					}
				}
			}
		}
	}
}

func TestP151LostGrown(t *testing.T) {
	for seed := range uint64(30) {
		r := rand.New(rand.NewPCG(seed, 2))
		p := grown(seed, 1+r.IntN(60))
		keys := around(p.items)
		for _, lost := range slices.Sorted(maps.Keys(p.nodes)) {
			c, m := mustNew(t, p.without(lost).source, p.root), newModel(p.items)
			for n := range 60 {
				x := []call{next, next, prev, prev, seek(keys[r.IntN(len(keys))]), first, last}[r.IntN(7)]
				wantLossy(t, fmt.Sprint("seed ", seed, ", without ", lost, ", call ", n), c, m, p, lost, x)
			}
		}
	}
}

// wary is a source that may fail at any time; it notes the last error that it told.
type wary struct {
	of   tree.Source
	fail func(ref int) api.Errno
	told api.Errno
}

func (w *wary) source(ref int) (n node.Node, e api.Errno) {
	if e = w.fail(ref); e == api.OK {
		n, e = w.of(ref)
	}
	if e != api.OK {
		w.told = e
	}
	return n, e
}

// A source that fails by chance: what it tells, whatever number that is, is told at once, and the cursor stands nowhere then; where it tells no error all is as the model has it.
func TestP151FailsLater(t *testing.T) {
	for seed := range uint64(60) {
		r := rand.New(rand.NewPCG(seed, 3))
		p := grown(seed, 1+r.IntN(60))
		keys := around(p.items)
		w := &wary{of: p.source, fail: func(int) api.Errno {
			if r.IntN(6) > 0 {
				return api.OK
			}
			return []api.Errno{api.ErrDown, api.ErrTxnCorrupt, api.ErrTreeForm, -7, 1 << 40}[r.IntN(5)]
		}}
		c, m := mustNew(t, w.source, p.root), newModel(p.items)
		for n := range 400 {
			x := []call{next, next, next, prev, prev, seek(keys[r.IntN(len(keys))]), first, last}[r.IntN(8)]
			what := fmt.Sprint("seed ", seed, ", call ", n, ", ", x.name)
			x.as(m)
			w.told = api.OK
			it, is, e := x.do(c)
			if w.told != api.OK {
				m.at = -1
			}
			want, wantIs := m.here()
			wantItem(t, what, it, is, e, want, wantIs, w.told)
		}
	}
}

// Behind an error the cursor stands nowhere, whatever call told it, and wherever it stood.
func TestP151NowhereBehind(t *testing.T) {
	down := false
	w := &wary{of: three().source, fail: func(int) api.Errno {
		if down {
			return api.ErrDown
		}
		return api.OK
	}}
	for _, x := range []call{first, last, seek("a"), seek("c"), seek("zz"), next, prev} {
		for _, y := range []call{next, prev} {
			c := mustNew(t, w.source, 9)
			for _, at := range []string{"", "d", "l"} {
				down = false
				wantKey(t, "behind", c, seek("zz"), "")
				if at != "" {
					wantKey(t, "behind", c, seek(at), at)
				}
				down = true
				if x.name == "Next" && at == "d" || x.name == "Prev" && at == "l" {
					continue // the other item of the same leaf: the source need not be asked
				}
				wantError(t, "at "+at, c, x, api.ErrDown)
				down = false
				want := "a"
				if y.name == "Prev" {
					want = "z"
				}
				wantKey(t, "at "+at+", behind "+x.name, c, y, want)
			}
		}
	}
}

// What stands beside an error is no node.
func TestP151ErrorAndNode(t *testing.T) {
	src := func(ref int) (node.Node, api.Errno) { return leaf("a", "b"), api.ErrFull }
	for _, x := range calls([]string{"", "a", "c"}) {
		wantError(t, "a node and an error", mustNew(t, src, 9), x, api.ErrFull)
	}
	for range cursor.Each(src, 9, nil) {
		t.Fatal("Each tells what stands beside an error")
	}
}

// No call may panic, so a source that does is none that tells a tree.
func TestP151Panics(t *testing.T) {
	l := three()
	src := func(ref int) (node.Node, api.Errno) {
		if ref == 3 || ref == 5 {
			panic(ref)
		}
		return l.source(ref)
	}
	for _, x := range []call{seek("c"), seek("d"), seek("bb"), seek("n"), seek("p")} {
		c := mustNew(t, src, 9)
		wantError(t, "panics", c, x, api.ErrTreeForm)
		wantKey(t, "behind a panic", c, next, "a")
	}
	for _, x := range []struct {
		at string
		of call
	}{{"b", next}, {"m", prev}, {"m", next}, {"x", prev}} {
		c := mustNew(t, src, 9)
		wantKey(t, "panics", c, seek(x.at), x.at)
		wantError(t, "panics", c, x.of, api.ErrTreeForm)
		wantKey(t, "behind a panic", c, prev, "z")
	}
	s := ""
	for it := range cursor.Each(src, 9, nil) {
		s += string(it.Key)
	}
	if s != "ab" {
		t.Fatal("Each, till the source panics:", s)
	}
}

// stairs is so many branches, one under the other from number 0 on, whose kids are all the same one, and what stands below them.
func stairs(many, kids int, end node.Node) nodes {
	l := nodes{many: end}
	for k := range many {
		n := node.Node{}
		for kid := range kids {
			n.Kids = append(n.Kids, node.Kid{Key: []byte{byte(kid)}, Ref: k + 1})
		}
		l[k] = n
	}
	return l
}

// Of what is no tree each call ends, and tells an error of layer 13, or, where no node has an item, none.
func TestP151NoItem(t *testing.T) {
	for _, x := range []struct {
		what string
		l    nodes
		want api.Errno
	}{
		{"a branch of no kids", nodes{0: {}}, api.ErrTreeForm},
		{"branches of one kid, and one of none", nodes{0: branch(1), 1: branch(2), 2: {}}, api.ErrTreeForm},
		{"a ring", nodes{0: branch(0, "m", 0)}, api.ErrTreeDeep},
		{"a ring of three", nodes{0: branch(1), 1: branch(2), 2: branch(0)}, api.ErrTreeDeep},
		{"too deep", stairs(12, 2, leaf("a")), api.ErrTreeDeep},
		{"empty leaves", stairs(11, 2, leaf()), api.OK},
		{"as many empty leaves as may be", stairs(2, 128, leaf()), api.OK},
		{"far too many empty leaves", stairs(11, 200, leaf()), api.ErrTreeForm},
		{"a leaf with kids", nodes{0: {Leaf: true, Kids: branch(1, "b", 2, "c", 3).Kids}}, api.OK},
		{"a branch with items", nodes{0: {Items: leaf("a").Items}}, api.ErrTreeForm},
	} {
		for _, y := range calls([]string{"", "a", "m", "z"}) {
			c := mustNew(t, x.l.source, 0)
			wantError(t, x.what, c, y, x.want)
			wantError(t, x.what+", again", c, y, x.want)
		}
		for range cursor.Each(x.l.source, 0, nil) {
			t.Fatal("Each of", x.what)
		}
	}
}

// The leaves may be empty one behind the other: an error behind them is told all the same.
func TestP151EmptyLeaves(t *testing.T) {
	for many := range 40 {
		l := nodes{0: branch(1), 1: leaf("a"), 2: leaf()}
		n := l[0]
		for k := range many {
			n.Kids = append(n.Kids, node.Kid{Key: []byte{'b', byte(k)}, Ref: 2})
		}
		n.Kids = append(n.Kids, node.Kid{Key: []byte("c"), Ref: 3}, node.Kid{Key: []byte("d"), Ref: 4})
		l[0], l[4] = n, leaf("d")
		c := mustNew(t, l.source, 0)
		wantKey(t, "ahead", c, first, "a")
		wantError(t, "ahead", c, next, api.ErrRange)
		wantError(t, "ahead", c, seek("aa"), api.ErrRange)
		wantKey(t, "behind", c, last, "d")
		wantError(t, "behind", c, prev, api.ErrRange)
		l[3] = leaf("c")
		wantKey(t, "whole", c, first, "a")
		wantKey(t, "whole", c, next, "c")
		wantKey(t, "whole", c, prev, "a")
		wantKey(t, "whole", c, seek("b"), "c")
		wantKey(t, "whole", c, seek("bb"), "c")
	}
}

// Wherever empty leaves come to an end, the error of the one that is met last is told by the call that met it.
func TestP151ErrorOfTheLastLeaf(t *testing.T) {
	for many := api.MaxPages - 2; many <= api.MaxPages+2; many++ {
		kids := slices.Repeat([]node.Kid{{Ref: 1}}, many+1)
		asked := 0
		w := &wary{of: nodes{0: {Kids: kids}, 1: leaf()}.source, fail: func(int) api.Errno {
			asked++
			if asked > many+1 {
				return api.ErrDown
			}
			return api.OK
		}}
		_, is, e := mustNew(t, w.source, 0).First()
		if is || e == api.OK || w.told != api.OK && e != w.told {
			t.Fatalf("%d empty leaves: %v, error %d; the source told %d", many, is, e, w.told)
		}
	}
}

// What goes round tells its items, as long as they are in order; then an error of layer 13, so that Each comes to an end.
func TestP15GoesRound(t *testing.T) {
	wide := branch(2)
	for k := range 50 {
		wide.Kids = append(wide.Kids, node.Kid{Key: []byte{'b', byte(k)}, Ref: 5})
	}
	backwards := branch(5)
	for k := range 50 {
		backwards.Kids = append(backwards.Kids, node.Kid{Key: []byte{byte(k)}, Ref: 5})
	}
	backwards.Kids = append(backwards.Kids, node.Kid{Key: []byte("a"), Ref: 2})
	for what, l := range map[string]nodes{
		"one way":       {5: branch(2, "b", 5), 2: leaf("a", "b")},
		"many ways":     {5: wide, 2: leaf("a", "b")},
		"the other way": {5: backwards, 2: leaf("a", "b")},
		"one leaf":      stairs(11, 100, leaf("a", "b")),
	} {
		root := 5
		if what == "one leaf" {
			root = 0
		}
		n := 0
		for range cursor.Each(l.source, root, nil) {
			n++
		}
		if n > 2 {
			t.Fatalf("%s: Each tells %d items", what, n)
		}
		wantEnd(t, what+", from First on", l.source, root, first, next, 1)
		wantEnd(t, what+", from Last on", l.source, root, last, prev, -1)
	}
}

// wantEnd goes on as long as there are items: each must be beyond the one ahead, on that side, so that there is an end.
func wantEnd(t *testing.T, what string, src tree.Source, root int, begin, on call, side int) {
	t.Helper()
	c := mustNew(t, src, root)
	it, is, e := begin.do(c)
	for is {
		was := it
		it, is, e = on.do(c)
		if is && bytes.Compare(it.Key, was.Key) != side {
			t.Fatalf("%s: %q behind %q", what, it.Key, was.Key)
		}
	}
	if e != api.OK && e != api.ErrTreeForm && e != api.ErrTreeDeep {
		t.Fatalf("%s: error %d", what, e)
	}
}

// Keys that don't rise are refused, and the cursor stands nowhere then.
func TestP15NotInOrder(t *testing.T) {
	l := nodes{9: branch(2, "c", 3), 2: leaf("b", "d"), 3: leaf("d", "c", "e")}
	c := mustNew(t, l.source, 9)
	wantKey(t, "not in order", c, first, "b")
	wantKey(t, "not in order", c, next, "d")
	wantError(t, "the same", c, next, api.ErrTreeForm)
	wantKey(t, "behind an error", c, next, "b")
	wantKey(t, "not in order", c, last, "e")
	wantKey(t, "not in order", c, prev, "c")
	wantError(t, "greater", c, prev, api.ErrTreeForm)
	wantKey(t, "behind an error", c, prev, "e")
	s := ""
	for it := range cursor.Each(l.source, 9, nil) {
		s += string(it.Key)
	}
	if s != "bd" {
		t.Fatal("Each of what is not in order:", s)
	}
}

// A leaf that is deeper than may be is refused from beside it just as from the root.
func TestP15DeepBeside(t *testing.T) {
	for many := 1; many <= 14; many++ {
		l := nodes{}
		for k, n := range stairs(many, 2, leaf("n")) {
			if !n.Leaf {
				n = branch(n.Kids[0].Ref)
			}
			l[k] = n
		}
		l[100] = branch(101, "m", 0, "x", 102)
		l[101], l[102] = leaf("a"), leaf("x")
		deep := many+2 > api.MaxDepth
		for _, x := range []struct {
			at string
			of call
		}{{"a", next}, {"x", prev}, {"a", seek("n")}, {"a", seek("b")}} {
			c := mustNew(t, l.source, 100)
			wantKey(t, "deep", c, seek(x.at), x.at)
			if deep {
				wantError(t, fmt.Sprint("deep ", many), c, x.of, api.ErrTreeDeep)
			} else {
				wantKey(t, fmt.Sprint("deep ", many), c, x.of, "n")
			}
		}
	}
}

// anyNode is a node by chance: of numbers 0 to 5, of which one is not there, with few keys, in order or not.
func anyNode(r *rand.Rand) node.Node {
	n := node.Node{Leaf: r.IntN(2) == 0}
	if n.Leaf || r.IntN(9) == 0 {
		for range r.IntN(4) {
			n.Items = append(n.Items, item.Of([]byte{byte('a' + r.IntN(9))}, nil))
		}
	}
	if !n.Leaf || r.IntN(9) == 0 {
		for range r.IntN(4) {
			n.Kids = append(n.Kids, node.Kid{Key: []byte{byte('a' + r.IntN(9))}, Ref: r.IntN(6)})
		}
	}
	if r.IntN(2) == 0 {
		slices.SortFunc(n.Items, func(a, b item.Item) int { return bytes.Compare(a.Key, b.Key) })
		slices.SortFunc(n.Kids, func(a, b node.Kid) int { return bytes.Compare(a.Key, b.Key) })
	}
	return n
}

// Of any nodes, trees or not: no call panics, each ends; an error that the source tells is told, and beside an error, or a false, there is no item.
func TestP15AnyNodes(t *testing.T) {
	errors := 0
	for seed := range uint64(20000) {
		r := rand.New(rand.NewPCG(seed, 4))
		l := nodes{}
		for ref := range 5 {
			l[ref] = anyNode(r)
		}
		w := &wary{of: l.source, fail: func(int) api.Errno { return api.OK }}
		c := mustNew(t, w.source, 0)
		for n := range 25 {
			x := []call{next, next, next, prev, prev, prev, first, last, seek(string(rune('a' + r.IntN(9))))}[r.IntN(9)]
			what := fmt.Sprint("seed ", seed, ", call ", n, ", ", x.name)
			w.told = api.OK
			it, is, e := x.do(c)
			switch {
			case w.told != api.OK:
				errors++
				wantItem(t, what, it, is, e, item.Item{}, false, w.told)
			case !is:
				wantItem(t, what, it, is, e, item.Item{}, false, e)
			case e != api.OK:
				t.Fatalf("%s: an item, and error %d", what, e)
			}
		}
		wantEnd(t, fmt.Sprint("seed ", seed), l.whole, 0, first, next, 1)
	}
	if errors < 1000 {
		t.Fatal("hardly any error was told:", errors)
	}
}

// whole is a source that tells an empty leaf where there is no node.
func (l nodes) whole(ref int) (node.Node, api.Errno) {
	if n, is := l[ref]; is {
		return n, api.OK
	}
	return node.Node{Leaf: true}, api.OK
}

// scribble writes into all that an item has.
func scribble(it item.Item) {
	for _, b := range [][]byte{it.Key, it.Value} {
		b = b[:cap(b)]
		for k := range b {
			b[k] ^= 0x55
		}
	}
}

// What is told is the caller's own: to write into it changes neither the source's nodes nor what is told later.
func TestP15SharesNothing(t *testing.T) {
	for seed := range uint64(40) {
		r := rand.New(rand.NewPCG(seed, 5))
		p, same := grown(seed, 1+r.IntN(60)), grown(seed, 1+rand.New(rand.NewPCG(seed, 5)).IntN(60))
		keys := around(p.items)
		c, m := mustNew(t, p.source, p.root), newModel(same.items)
		for n := range 200 {
			x := []call{next, next, next, prev, prev, seek(keys[r.IntN(len(keys))]), first, last}[r.IntN(8)]
			x.as(m)
			want, wantIs := m.here()
			it, is, e := x.do(c)
			wantItem(t, fmt.Sprint("seed ", seed, ", call ", n, ": ", x.name), it, is, e, want, wantIs, api.OK)
			scribble(it)
		}
		for it := range cursor.Each(p.source, p.root, nil) {
			scribble(it)
		}
		for ref, n := range p.nodes {
			if !node.Same(n, same.nodes[ref]) {
				t.Fatalf("seed %d: node %d was written into", seed, ref)
			}
		}
		wantEach(t, fmt.Sprint("seed ", seed), planted{nodes: p.nodes, root: p.root, items: same.items}, "")
	}
}

// A source may tell each node in the same memory, and write into it later.
func TestP15SameMemory(t *testing.T) {
	l := three()
	var key, value [8]byte
	memory := node.Node{Items: make([]item.Item, 0, 4), Kids: make([]node.Kid, 0, 4)}
	src := func(ref int) (node.Node, api.Errno) {
		for k := range memory.Items {
			memory.Items[k] = item.Item{Ref: 77}
		}
		for k := range memory.Kids {
			memory.Kids[k] = node.Kid{Ref: 99}
		}
		key, value = [8]byte{}, [8]byte{}
		n, e := l.source(ref)
		memory = node.Node{Leaf: n.Leaf, Items: memory.Items[:0], Kids: memory.Kids[:0]}
		for k, it := range n.Items {
			key[k], value[k] = it.Key[0], it.Value[1]
			memory.Items = append(memory.Items, item.Item{Key: key[k : k+1], Value: value[k : k+1]})
		}
		for k, kid := range n.Kids {
			if k > 0 {
				key[k] = kid.Key[0]
			}
			memory.Kids = append(memory.Kids, node.Kid{Key: key[k : k+min(k, 1)], Ref: kid.Ref})
		}
		return memory, e
	}
	want := "abdlmqxyz"
	c, other := mustNew(t, src, 9), mustNew(t, src, 9)
	for k := range want {
		it, is, e := c.Next()
		wantItem(t, "Next", it, is, e, item.Of([]byte{want[k]}, []byte{want[k]}), true, api.OK)
		other.Seek([]byte("p"))
		other.Prev()
	}
	for k := range want {
		it, is, e := c.Prev()
		if k == 0 {
			it, is, e = c.Last()
		}
		wantItem(t, "Prev", it, is, e, item.Of([]byte{want[8-k]}, []byte{want[8-k]}), true, api.OK)
		other.Seek([]byte("p"))
		other.Prev()
	}
}

// A key that is handed in stays as it was, and what is written into it later is of no account.
func TestP15KeyHandedIn(t *testing.T) {
	c := mustNew(t, three().source, 9)
	key := []byte("d--")[:1]
	it, is, e := c.Seek(key)
	wantItem(t, "Seek", it, is, e, item.Of([]byte("d"), []byte("vd")), true, api.OK)
	if string(key[:3]) != "d--" {
		t.Fatal("Seek writes into the key")
	}
	key[0] = 'z'
	wantKey(t, "the key written into", c, next, "l")
	wantKey(t, "the key written into", c, prev, "d")
	from := []byte("d--")[:1]
	for range cursor.Each(three().source, 9, from) {
	}
	if string(from[:3]) != "d--" {
		t.Fatal("Each writes into from")
	}
}
