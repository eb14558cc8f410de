package node_test

import (
	"bytes"
	"math"
	"slices"
	"testing"

	"regauge/api"
	"regauge/item"
	"regauge/node"
)

// noGens are numbers that are of no generation.
var noGens = []int{0, -1, -2, 4, 5, 256 + 1, 1 << 32, 1<<32 + 1, math.MinInt, math.MaxInt}

var allGens = []int{api.G1, api.G2, api.G3}

// caps is how many bytes a page has behind its head, as the chapters tell it.
var caps = map[int]int{api.G1: 248, api.G2: 240, api.G3: 240}

// keys is how long a key may be.
var keys = map[int]int{api.G1: 16, api.G2: 20, api.G3: 24}

// key is the n-th key of that length: they rise with n.
func key(n, long int) []byte {
	k := make([]byte, long)
	for i := long - 1; i >= 0 && n > 0; i-- {
		k[i] = byte(n)
		n >>= 8
	}
	return k
}

func near(k []byte, value int) item.Item {
	return item.Item{Key: k, Value: make([]byte, value)}
}

func away(k []byte, size, ref int) item.Item {
	return item.Item{Key: k, Size: size, Ref: ref}
}

func leafOf(items ...item.Item) node.Node {
	return node.Node{Leaf: true, Items: items}
}

func branchOf(kids ...node.Kid) node.Node {
	return node.Node{Kids: kids}
}

func kid(k string, ref int) node.Kid {
	return node.Kid{Key: []byte(k), Ref: ref}
}

// words is a leaf with these keys, and values of so many bytes.
func words(value int, l ...string) node.Node {
	n := node.Node{Leaf: true}
	for _, k := range l {
		n.Items = append(n.Items, near([]byte(k), value))
	}
	return n
}

// even is a leaf of many items whose keys and values are so long.
func even(many, long, value int) node.Node {
	n := node.Node{Leaf: true}
	for k := range many {
		n.Items = append(n.Items, near(key(k, long), value))
	}
	return n
}

// evenKids is a branch of many kids whose keys are so long.
func evenKids(many, long int) node.Node {
	n := branchOf(node.Kid{Ref: 2})
	for k := 1; k < many; k++ {
		n.Kids = append(n.Kids, node.Kid{Key: key(k, long), Ref: k + 2})
	}
	return n
}

// copyOf is a node that shares nothing.
func copyOf(n node.Node) node.Node {
	c := node.Node{Leaf: n.Leaf}
	for _, it := range n.Items {
		c.Items = append(c.Items, item.Item{Key: bytes.Clone(it.Key), Value: bytes.Clone(it.Value), Size: it.Size, Ref: it.Ref})
	}
	for _, k := range n.Kids {
		c.Kids = append(c.Kids, node.Kid{Key: bytes.Clone(k.Key), Ref: k.Ref})
	}
	return c
}

// equal holds nodes against each other without a call of the package.
func equal(a, b node.Node) bool {
	if a.Leaf != b.Leaf || len(a.Items) != len(b.Items) || len(a.Kids) != len(b.Kids) {
		return false
	}
	for k, x := range a.Items {
		y := b.Items[k]
		if string(x.Key) != string(y.Key) || string(x.Value) != string(y.Value) || x.Size != y.Size || x.Ref != y.Ref {
			return false
		}
	}
	for k, x := range a.Kids {
		if string(x.Key) != string(b.Kids[k].Key) || x.Ref != b.Kids[k].Ref {
			return false
		}
	}
	return true
}

// spare is a node whose rows have room behind their ends, filled with what nobody else has; told is whether that is still there.
func spare(n node.Node) (s node.Node, told func() bool) {
	mark := []byte("mark")
	s = copyOf(n)
	items, kids := len(s.Items), len(s.Kids)
	for range 4 {
		s.Items = append(s.Items, item.Item{Key: mark})
		s.Kids = append(s.Kids, node.Kid{Key: mark})
	}
	allItems, allKids := s.Items, s.Kids
	s.Items, s.Kids = s.Items[:items:len(allItems)], s.Kids[:kids:len(allKids)]
	return s, func() bool {
		for k := range 4 {
			if string(allItems[items+k].Key) != "mark" || string(allKids[kids+k].Key) != "mark" {
				return false
			}
		}
		return string(mark) == "mark"
	}
}

// chance is a row of numbers that is always the same one.
type chance uint64

func (c *chance) below(n int) int {
	*c = *c*6364136223846793005 + 1442695040888963407
	return int(uint64(*c)>>33) % n
}

func TestP61RightLeaf(t *testing.T) {
	for _, g := range allGens {
		most := keys[g]
		for i, x := range []struct {
			n    node.Node
			want bool
		}{
			{node.Node{Leaf: true}, true},
			{node.Node{Leaf: true, Items: []item.Item{}, Kids: []node.Kid{}}, true},
			{words(1, "a"), true},
			{words(0, "a", "aa", "ab", "b"), true},
			{words(1, "b", "a"), false},
			{words(1, "a", "c", "b"), false},
			{words(1, "a", "a"), false},
			{words(1, "a", "b", "b"), false},
			{words(1, "aa", "a"), false},
			{words(1, ""), false},
			{words(1, "", "a"), false},
			{leafOf(near([]byte{127}, 0), near([]byte{128}, 0)), true},
			{leafOf(near([]byte{128}, 0), near([]byte{127}, 0)), false},
			{leafOf(near(key(1, most), 0)), true},
			{leafOf(near(key(1, most+1), 0)), false},
			{leafOf(near(key(1, 3), 0), near(key(2, 3), 0), near(key(3, most+1), 0)), false},
			{leafOf(near(key(1, 3), item.MaxValue(g))), true},
			{leafOf(near(key(1, 3), item.MaxValue(g)+1)), false},
			{leafOf(away(key(1, 3), 33, 2)), true},
			{leafOf(away(key(1, 3), 32, 2)), false},
			{leafOf(away(key(1, 3), 33, 1)), false},
			{leafOf(away(key(1, 3), 33, api.MaxPages-1)), true},
			{leafOf(away(key(1, 3), 33, api.MaxPages)), false},
			{leafOf(away(key(1, 3), 33, 2), away(key(2, 3), 33, 2)), true},
			{leafOf(item.Item{Key: key(1, 3), Size: 1}), false},
			{node.Node{Leaf: true, Kids: []node.Kid{{Ref: 2}}}, false},
			{node.Node{Leaf: true, Items: words(1, "a").Items, Kids: []node.Kid{{Ref: 2}}}, false},
		} {
			if got := node.Right(g, x.n); got != x.want {
				t.Errorf("%d: leaf %d: %v", g, i, got)
			}
		}
	}
}

func TestP61RightBranch(t *testing.T) {
	for _, g := range allGens {
		most := keys[g]
		for i, x := range []struct {
			n    node.Node
			want bool
		}{
			{node.Node{}, false},
			{node.Node{Kids: []node.Kid{}, Items: []item.Item{}}, false},
			{branchOf(kid("", 2)), true},
			{branchOf(node.Kid{Ref: 2}), true},
			{branchOf(kid("a", 2)), false},
			{branchOf(kid("a", 2), kid("b", 3)), false},
			{branchOf(kid("", 2), kid("a", 3)), true},
			{branchOf(kid("", 3), kid("a", 2)), true},
			{branchOf(kid("", 3), kid("a", 3)), true},
			{branchOf(kid("", 2), kid("\x00", 3)), true},
			{branchOf(kid("", 2), kid("", 3)), false},
			{branchOf(kid("", 2), kid("a", 3), kid("", 4)), false},
			{branchOf(kid("", 2), kid("a", 3), kid("a", 4)), false},
			{branchOf(kid("", 2), kid("b", 3), kid("a", 4)), false},
			{branchOf(kid("", 2), kid("a", 3), kid("c", 4), kid("b", 5)), false},
			{branchOf(kid("", 2), kid("a", 3), kid("b", 4), kid("c", 5)), true},
			{branchOf(kid("", 1)), false},
			{branchOf(kid("", 0)), false},
			{branchOf(kid("", -2)), false},
			{branchOf(kid("", api.MaxPages-1)), true},
			{branchOf(kid("", api.MaxPages)), false},
			{branchOf(kid("", 1<<32+2)), false},
			{branchOf(kid("", math.MinInt)), false},
			{branchOf(kid("", math.MaxInt)), false},
			{branchOf(kid("", 2), kid("a", 1)), false},
			{branchOf(kid("", 2), kid("a", api.MaxPages)), false},
			{branchOf(kid("", 2), kid("a", api.MaxPages-1)), true},
			{branchOf(kid("", 2), node.Kid{Key: key(1, most), Ref: 3}), true},
			{branchOf(kid("", 2), node.Kid{Key: key(1, most+1), Ref: 3}), false},
			{branchOf(node.Kid{Key: key(1, most+1), Ref: 3}), false},
			{node.Node{Kids: []node.Kid{{Ref: 2}}, Items: words(1, "a").Items}, false},
			{node.Node{Items: words(1, "a").Items}, false},
		} {
			if got := node.Right(g, x.n); got != x.want {
				t.Errorf("%d: branch %d: %v", g, i, got)
			}
		}
	}
}

func TestP61RightNoGeneration(t *testing.T) {
	for _, g := range noGens {
		for i, n := range []node.Node{{}, {Leaf: true}, words(0, "a"), branchOf(kid("", 2)), branchOf(kid("", 2), kid("a", 3))} {
			if node.Right(g, n) {
				t.Errorf("%d: node %d is right", g, i)
			}
		}
	}
}

// What just fills a page fits, and is right; with a byte more it is not. Low begins at a third.
func TestP61Edges(t *testing.T) {
	for _, g := range allGens {
		room := caps[g]
		for n := 0; n < 300; n++ {
			l := leafWith(n)
			b := branchWith(g, n)
			if l.Leaf {
				edge(t, g, l, n, room)
			}
			if len(b.Kids) > 0 {
				edge(t, g, b, n, room)
			}
		}
	}
}

// edge holds a node that takes n bytes against what a page has.
func edge(t *testing.T, g int, n node.Node, want, room int) {
	t.Helper()
	if got := node.Room(g, n); got != want {
		t.Fatalf("%d: Room is %d, want %d", g, got, want)
	}
	if got := node.Fits(g, n); got != (want <= room) {
		t.Errorf("%d: Fits of %d is %v", g, want, got)
	}
	if got := node.Low(g, n); got != (3*want < room) {
		t.Errorf("%d: Low of %d is %v", g, want, got)
	}
	if got := node.Right(g, n); got != (want <= room) {
		t.Errorf("%d: Right of %d is %v", g, want, got)
	}
}

// leafWith is a leaf that takes just n bytes; no leaf, if there is none.
func leafWith(n int) node.Node {
	l := node.Node{Leaf: true}
	for k := 0; n > 0; k++ {
		take := min(n, 7+32)
		if n-take > 0 && n-take < 7 {
			take -= 7
		}
		if take < 7 {
			return node.Node{}
		}
		l.Items = append(l.Items, near(key(k, 3), take-7))
		n -= take
	}
	return l
}

// branchWith is a branch that takes just n bytes; no kids, if there is none.
func branchWith(g, n int) node.Node {
	w := 1 + item.IdWidth(g)
	b := branchOf(node.Kid{Ref: 2})
	n -= w
	for k := 1; n > 0; k++ {
		take := min(n, w+10)
		if n-take > 0 && n-take < w+1 {
			take -= w + 1 - (n - take)
		}
		if take < w+1 {
			return node.Node{}
		}
		b.Kids = append(b.Kids, node.Kid{Key: append(key(k, 1), key(0, take-w-1)...), Ref: 2 + k})
		n -= take
	}
	if n < 0 {
		return node.Node{}
	}
	return b
}

func TestP61Room(t *testing.T) {
	mixed := leafOf(near(key(1, 3), 40), near(key(2, 5), 32), away(key(3, 1), 100, 7), near(key(4, 2), 0))
	kids := branchOf(kid("", 2), kid("ab", 3), kid("b", 4))
	for i, x := range []struct {
		n     node.Node
		rooms [3]int
	}{
		{node.Node{Leaf: true}, [3]int{}},
		{node.Node{}, [3]int{}},
		{mixed, [3]int{11 + 41 + 9 + 6, 15 + 41 + 13 + 6, 15 + 41 + 13 + 6}},
		{kids, [3]int{5 + 7 + 6, 9 + 11 + 10, 9 + 11 + 10}},
		{branchOf(kid("", 2), kid("ab", 3)), [3]int{12, 20, 20}},
		{even(7, 4, 32), [3]int{280, 280, 280}},
		{leafOf(near(key(0, 300), 0)), [3]int{304, 304, 304}},
	} {
		for k, g := range allGens {
			if got := node.Room(g, x.n); got != x.rooms[k] {
				t.Errorf("%d: Room of %d is %d, want %d", g, i, got, x.rooms[k])
			}
		}
		for _, g := range noGens {
			if node.Room(g, x.n) != 0 || node.Low(g, x.n) {
				t.Errorf("%d: Room of %d is not 0, or Low", g, i)
			}
		}
	}
}

// Of a row of nodes, no two of which are the same, each is the same as its own copy alone.
func TestP61Same(t *testing.T) {
	l := []node.Node{
		{},
		{Leaf: true},
		words(0, "a"),
		words(1, "a"),
		words(0, "b"),
		words(0, "a", "b"),
		words(0, "b", "a"),
		words(0, "a", "c"),
		words(0, "ab"),
		leafOf(away([]byte("a"), 40, 2)),
		leafOf(away([]byte("a"), 41, 2)),
		leafOf(away([]byte("a"), 40, 3)),
		{Items: words(0, "a").Items},
		{Leaf: true, Kids: []node.Kid{{Ref: 2}}},
		{Leaf: true, Items: words(0, "a").Items, Kids: []node.Kid{{Ref: 2}}},
		branchOf(kid("", 2)),
		branchOf(kid("", 3)),
		branchOf(kid("a", 2)),
		branchOf(kid("", 2), kid("a", 3)),
		branchOf(kid("", 2), kid("a", 4)),
		branchOf(kid("", 2), kid("b", 3)),
		branchOf(kid("", 2), kid("a\x00", 3)),
		branchOf(kid("", 2), kid("a", 3), kid("b", 4)),
		branchOf(kid("", 2), kid("b", 4), kid("a", 3)),
	}
	for i, a := range l {
		for j, b := range l {
			if got := node.Same(a, copyOf(b)); got != (i == j) {
				t.Errorf("Same of %d and %d is %v", i, j, got)
			}
		}
	}
	empty := node.Node{Leaf: true, Items: []item.Item{}, Kids: []node.Kid{}}
	if !node.Same(empty, node.Node{Leaf: true}) || !node.Same(branchOf(kid("", 2)), branchOf(node.Kid{Ref: 2})) {
		t.Error("Same: an empty row is not as good as none")
	}
}

// All leaves with some of eight keys, and all keys that there are, and those between.
func TestP62Leaf(t *testing.T) {
	all := []string{"a", "aa", "b", "c\x00", "d", "d\xff", "e", "\xff"}
	asked := append([]string{"", "A", "a\x00", "ab", "bb", "c", "c\x00\x00", "dd", "d\xff\x00", "f", "\xfe", "\xff\x00", "\xff\xff"}, all...)
	for set := range 1 << len(all) {
		var l []string
		for k, w := range all {
			if set>>k&1 == 1 {
				l = append(l, w)
			}
		}
		n, told := spare(words(2, l...))
		for _, w := range asked {
			leafAgainst(t, n, l, w)
		}
		if !equal(n, words(2, l...)) || !told() {
			t.Fatalf("%v: what was given is changed", l)
		}
	}
}

// leafAgainst holds Find, With and Without of one key against a plain row of words.
func leafAgainst(t *testing.T, n node.Node, l []string, w string) {
	t.Helper()
	at, is := slices.BinarySearch(l, w)
	if k, was := node.Find(n, []byte(w)); k != at || was != is {
		t.Fatalf("%v: Find %q: %d, %v", l, w, k, was)
	}
	without := slices.Clone(l)
	if is {
		without = slices.Delete(without, at, at+1)
	}
	if got, was := node.Without(n, []byte(w)); was != is || !equal(got, words(2, without...)) {
		t.Fatalf("%v: Without %q: %v, %v", l, w, got, was)
	}
	it := item.Item{Key: []byte(w), Value: []byte("new"), Size: 5, Ref: 6}
	want := words(2, slices.Insert(without, at, w)...)
	want.Items[at] = it
	if got := node.With(n, it); !equal(got, want) {
		t.Fatalf("%v: With %q: %v", l, w, got)
	}
}

// What is made keeps nothing of an item, kids or a key that are handed in.
func TestP62KeepsNothing(t *testing.T) {
	it := item.Item{Key: []byte("b"), Value: []byte("value"), Size: 3, Ref: 4}
	l := node.With(words(1, "a", "c"), it)
	kids := []node.Kid{kid("e", 9), kid("f", 8)}
	s := node.Swap(branchOf(kid("", 2)), 1, 0, kids)
	k := []byte("m")
	j := node.Join(branchOf(kid("", 2)), branchOf(kid("", 3)), k)
	it.Key[0], it.Value[0], kids[0].Key[0], kids[1], k[0] = 'z', 'z', 'z', kid("z", 1), 'z'
	if string(l.Items[1].Key) != "b" || string(l.Items[1].Value) != "value" {
		t.Error("With keeps what was given:", l)
	}
	if !equal(s, branchOf(kid("", 2), kid("e", 9), kid("f", 8))) {
		t.Error("Swap keeps what was given:", s)
	}
	if !equal(j, branchOf(kid("", 2), kid("m", 3))) {
		t.Error("Join keeps what was given:", j)
	}
}

// All branches with some of eight keys behind the first kid, whatever Key that one has.
func TestP62Side(t *testing.T) {
	all := []string{"a", "aa", "b", "c\x00", "d", "d\xff", "e", "\xff"}
	asked := append([]string{"", "A", "a\x00", "ab", "bb", "c", "c\x00\x00", "dd", "d\xff\x00", "f", "\xfe", "\xff\x00", "\xff\xff"}, all...)
	for set := range 1 << len(all) {
		n := branchOf(kid("", 2))
		for k, w := range all {
			if set>>k&1 == 1 {
				n.Kids = append(n.Kids, kid(w, 3+k))
			}
		}
		for _, first := range []string{"", "a", "zzz"} {
			n.Kids[0].Key = []byte(first)
			for _, w := range asked {
				want := 0
				for k := 1; k < len(n.Kids) && string(n.Kids[k].Key) <= w; k++ {
					want = k
				}
				if got := node.Side(n, []byte(w)); got != want {
					t.Fatalf("%v: Side of %q is %d, want %d", n.Kids, w, got, want)
				}
			}
		}
	}
	if node.Side(node.Node{}, []byte("a")) != 0 || node.Side(node.Node{}, nil) != 0 || node.Side(branchOf(kid("", 2)), []byte("a")) != 0 {
		t.Error("Side of no kid, or of one, is not 0")
	}
}

func TestP62Swap(t *testing.T) {
	far := []int{math.MinInt, math.MinInt + 1, -7, -1, 0, 1, 2, 3, 4, 5, 6, 1 << 40, math.MaxInt - 1, math.MaxInt}
	for size := range 5 {
		var whole node.Node
		for k := range size {
			whole.Kids = append(whole.Kids, node.Kid{Key: key(k, min(k, 1)), Ref: k + 2})
		}
		for in := range 4 {
			var kids []node.Kid
			for k := range in {
				kids = append(kids, node.Kid{Key: []byte{'x', byte(k)}, Ref: 100 + k})
			}
			for _, k := range far {
				for _, many := range far {
					swapAgainst(t, whole, k, many, kids)
				}
			}
		}
	}
}

// swapAgainst goes kid by kid: one is left out if it is one of many from the place on.
func swapAgainst(t *testing.T, whole node.Node, k, many int, kids []node.Kid) {
	t.Helper()
	n, told := spare(whole)
	from := max(0, min(k, len(n.Kids)))
	var want []node.Kid
	for at := range len(n.Kids) + 1 {
		if at == from {
			want = append(want, kids...)
		}
		if at < len(n.Kids) && (at < from || at-from >= many) {
			want = append(want, n.Kids[at])
		}
	}
	given := slices.Clone(kids)
	if got := node.Swap(n, k, many, given); !equal(got, branchOf(want...)) {
		t.Fatalf("%v: Swap(%d, %d, %v): %v, want %v", n.Kids, k, many, kids, got.Kids, want)
	}
	if !equal(n, whole) || !told() || !equal(branchOf(given...), branchOf(kids...)) {
		t.Fatal("Swap changes what it is given")
	}
}

// plainParts is what the chapter says, in other words: a list of pieces, of which the first one that is too great is cut, till there is none.
func plainParts(g int, n node.Node) []node.Part {
	l := []node.Part{{N: copyOf(n)}}
	for at := 0; at < len(l); {
		a, b, is := plainCut(g, l[at])
		if !is {
			at++
			continue
		}
		l = slices.Replace(l, at, at+1, a, b)
	}
	return l
}

func plainCut(g int, p node.Part) (a, b node.Part, is bool) {
	var rooms []int
	all := 0
	for _, it := range p.N.Items {
		rooms = append(rooms, item.Room(g, it))
	}
	for _, k := range p.N.Kids {
		rooms = append(rooms, 1+len(k.Key)+item.IdWidth(g))
	}
	for _, r := range rooms {
		all += r
	}
	if all <= caps[g] || len(rooms) < 2 {
		return a, b, false
	}
	at, ahead := 1, rooms[0]
	for at < len(rooms)-1 && all-ahead > ahead {
		ahead += rooms[at]
		at++
	}
	a, b = node.Part{Key: p.Key, N: copyOf(p.N)}, node.Part{N: copyOf(p.N)}
	if p.N.Leaf {
		a.N.Items, b.N.Items, b.Key = a.N.Items[:at], b.N.Items[at:], p.N.Items[at].Key
		return a, b, true
	}
	a.N.Kids, b.N.Kids, b.Key = a.N.Kids[:at], b.N.Kids[at:], p.N.Kids[at].Key
	b.N.Kids[0].Key = nil
	return a, b, true
}

// partsAgainst holds Parts against the plain ones, and joins them.
func partsAgainst(t *testing.T, g int, whole node.Node) []node.Part {
	t.Helper()
	n, told := spare(whole)
	got, want := node.Parts(g, n), plainParts(g, whole)
	if !equal(n, whole) || !told() {
		t.Fatal("Parts changes what it is given")
	}
	if len(got) != len(want) {
		t.Fatalf("%d: %d parts, want %d", g, len(got), len(want))
	}
	for k, p := range got {
		if string(p.Key) != string(want[k].Key) || !equal(p.N, want[k].N) {
			t.Fatalf("%d: part %d is %q, %v, want %q, %v", g, k, p.Key, p.N, want[k].Key, want[k].N)
		}
	}
	joined := got[0].N
	for _, p := range got[1:] {
		a, b := copyOf(joined), copyOf(p.N)
		j := node.Join(joined, p.N, p.Key)
		if !equal(a, joined) || !equal(b, p.N) {
			t.Fatal("Join changes what it is given")
		}
		joined = j
	}
	if !equal(joined, whole) || !equal(n, whole) {
		t.Fatalf("%d: Parts, joined, are not the node: %v, %v", g, joined, whole)
	}
	return got
}

// manyOf is how many items, or kids, each piece has.
func manyOf(l []node.Part) []int {
	var many []int
	for _, p := range l {
		many = append(many, len(p.N.Items)+len(p.N.Kids))
	}
	return many
}

func TestP63Halves(t *testing.T) {
	for i, x := range []struct {
		g    int
		n    node.Node
		many []int
	}{
		{api.G1, even(7, 4, 32), []int{4, 3}},
		{api.G1, even(8, 4, 32), []int{4, 4}},
		{api.G1, even(6, 4, 32), []int{6}},
		{api.G2, even(6, 4, 32), []int{6}},
		{api.G3, even(6, 5, 32), []int{3, 3}},
		{api.G1, even(13, 4, 32), []int{4, 3, 6}},
		{api.G1, even(14, 4, 32), []int{4, 3, 4, 3}},
		{api.G1, node.Node{Leaf: true}, []int{0}},
		{api.G1, node.Node{}, []int{0}},
		{api.G1, leafOf(near(key(0, 300), 0)), []int{1}},
		{api.G1, leafOf(near(key(0, 300), 0), near(key(1, 300), 0)), []int{1, 1}},
		{api.G1, leafOf(near(key(0, 300), 0), near(key(1, 3), 0), near(key(2, 3), 0)), []int{1, 2}},
		{api.G1, leafOf(near(key(0, 3), 0), near(key(1, 3), 0), near(key(1, 300), 0)), []int{2, 1}},
		{api.G1, leafOf(near(key(0, 3), 0), near(key(0, 300), 0), near(key(1, 300), 0)), []int{1, 1, 1}},
		{api.G2, evenKids(30, 2), []int{16, 14}},
		{api.G1, evenKids(30, 2), []int{30}},
		{api.G1, branchOf(node.Kid{Key: key(1, 300), Ref: 2}), []int{1}},
		{api.G1, branchOf(kid("", 2), node.Kid{Key: key(1, 300), Ref: 3}), []int{1, 1}},
	} {
		if got := manyOf(partsAgainst(t, x.g, x.n)); !slices.Equal(got, x.many) {
			t.Errorf("%d: parts of %v, want %v", i, got, x.many)
		}
	}
}

// The place of the cut, where those ahead take just half of all, a byte more, and less.
func TestP63JustHalf(t *testing.T) {
	for less := -2; less <= 2; less++ {
		n := leafOf(near(key(0, 96), 0), near(key(1, 96+less), 0), near(key(2, 96), 0), near(key(3, 96), 0))
		want := []int{2, 2}
		if less < 0 {
			want = []int{2, 1, 1}
		}
		if got := manyOf(partsAgainst(t, api.G1, n)); !slices.Equal(got, want) {
			t.Errorf("%d: parts of %v, want %v", less, got, want)
		}
	}
}

// A kid that comes to stand first has no Key any more: it takes less room there, which tells whether its piece fits, and where that is cut.
func TestP63FirstKeyLeaves(t *testing.T) {
	for i, x := range []struct {
		lens, many []int
	}{
		{[]int{300, 100, 150}, []int{1, 2}},
		{[]int{2000, 100, 237}, []int{1, 2}},
		{[]int{2000, 100, 238}, []int{1, 2}},
		{[]int{2000, 100, 239}, []int{1, 1, 1}},
		{[]int{2000, 300, 125, 125}, []int{1, 2, 1}},
	} {
		var n node.Node
		for k, long := range x.lens {
			n.Kids = append(n.Kids, node.Kid{Key: key(k, long), Ref: k + 2})
		}
		l := partsAgainst(t, api.G1, n)
		if got := manyOf(l); !slices.Equal(got, x.many) {
			t.Errorf("%d: parts of %v, want %v", i, got, x.many)
		}
		if string(l[1].Key) != string(key(1, x.lens[1])) || len(l[1].N.Kids[0].Key) != 0 {
			t.Errorf("%d: the second part is %v", i, l[1])
		}
	}
}

// All nodes of even items, and kids, of each length, against the plain cut.
func TestP63Even(t *testing.T) {
	for _, g := range allGens {
		for _, many := range []int{0, 1, 2, 3, 5, 8, 13, 21, 34, 55, 89, 144} {
			for long := 1; long <= keys[g]; long += 3 {
				for _, value := range []int{0, 1, 16, 32, 33, 100} {
					partsAgainst(t, g, even(many, long, value))
				}
				if many > 0 {
					partsAgainst(t, g, evenKids(many, long))
				}
			}
		}
	}
}

// Rows of uneven items, and kids, of all that there may be and of greater ones.
func TestP63Uneven(t *testing.T) {
	c := chance(7)
	for range 2000 {
		g := allGens[c.below(3)]
		many, most := c.below(40), 1+c.below(300)
		l, b := node.Node{Leaf: true}, node.Node{}
		for k := range many {
			l.Items = append(l.Items, near(key(k, 2+c.below(most)), c.below(40)))
			b.Kids = append(b.Kids, node.Kid{Key: key(k, 2+c.below(most)), Ref: k + 2})
		}
		partsAgainst(t, g, l)
		partsAgainst(t, g, b)
	}
}

// To append to one piece, or to write into a Part's Key, changes no other one.
func TestP63PartsApart(t *testing.T) {
	for _, n := range []node.Node{even(14, 4, 32), evenKids(60, 3)} {
		l := node.Parts(api.G1, n)
		was := copyOf(n)
		for _, p := range l {
			_ = append(p.N.Items, near([]byte("z"), 3))
			_ = append(p.N.Kids, kid("z", 3))
			for k := range p.Key {
				p.Key[k] = 'z'
			}
		}
		if len(l) < 2 || !equal(n, was) {
			t.Errorf("pieces share: %v", n)
		}
		for k, p := range l {
			if w := plainParts(api.G1, was)[k]; !equal(p.N, w.N) {
				t.Errorf("piece %d is changed: %v", k, p.N)
			}
		}
	}
}

func TestP63Join(t *testing.T) {
	for i, x := range []struct {
		a, b, want node.Node
		key        string
	}{
		{words(1, "a", "b"), words(1, "c"), words(1, "a", "b", "c"), "c"},
		{words(1, "a", "b"), words(1, "d"), words(1, "a", "b", "d"), "c"},
		{words(1, "a"), node.Node{Leaf: true}, words(1, "a"), "c"},
		{node.Node{Leaf: true}, words(1, "a"), words(1, "a"), ""},
		{node.Node{Leaf: true}, node.Node{Leaf: true}, node.Node{Leaf: true}, "x"},
		{branchOf(kid("", 2)), branchOf(kid("", 3)), branchOf(kid("", 2), kid("m", 3)), "m"},
		{branchOf(kid("", 2), kid("a", 3)), branchOf(kid("", 4), kid("z", 5)), branchOf(kid("", 2), kid("a", 3), kid("m", 4), kid("z", 5)), "m"},
		{branchOf(kid("", 2)), branchOf(kid("q", 3)), branchOf(kid("", 2), kid("m", 3)), "m"},
		{branchOf(kid("", 2)), node.Node{}, branchOf(kid("", 2)), "m"},
		{node.Node{}, node.Node{}, node.Node{}, "m"},
	} {
		a, aTold := spare(x.a)
		b, bTold := spare(x.b)
		if got := node.Join(a, b, []byte(x.key)); !equal(got, x.want) {
			t.Errorf("%d: Join: %v", i, got)
		}
		if !equal(a, x.a) || !equal(b, x.b) || !aTold() || !bTold() {
			t.Errorf("%d: Join changes what it is given", i)
		}
	}
}

// fillLeaf is a leaf that fits in g, of items of the lengths that draw tells, and an item more.
func fillLeaf(g int, draw func() (long, value int, far bool)) node.Node {
	n := node.Node{Leaf: true}
	for k := 0; node.Fits(g, n); k++ {
		long, value, far := draw()
		it := near(append(key(k, 1), key(0, long-1)...), value)
		if far {
			it = away(it.Key, value+33, k+2)
		}
		n.Items = append(n.Items, it)
	}
	return n
}

// fillBranch is a branch that fits in g, of kids whose keys are as long as draw tells, and a kid more.
func fillBranch(g int, draw func() int) node.Node {
	n := branchOf(node.Kid{Ref: 2})
	for k := 1; node.Fits(g, n); k++ {
		n.Kids = append(n.Kids, node.Kid{Key: append(key(k, 1), key(0, draw()-1)...), Ref: k + 2})
	}
	return n
}

// fewParts holds what is cut in g against the three pieces that there may be.
func fewParts(t *testing.T, g int, n node.Node) int {
	t.Helper()
	l := partsAgainst(t, g, n)
	if len(l) > 3 {
		t.Fatalf("%d parts in %d of %v", len(l), g, n)
	}
	for _, p := range l {
		if !node.Right(g, p.N) {
			t.Fatalf("a part in %d is not right: %v", g, p.N)
		}
	}
	return len(l)
}

// Items of G1 may be in each generation: so each part is not only one that fits, but right.
func TestP64AtMostThree(t *testing.T) {
	c := chance(3)
	most := 0
	for _, from := range allGens {
		for _, to := range allGens {
			for round := range 1500 {
				long, far := 1+c.below(16), c.below(5)
				l := fillLeaf(from, func() (int, int, bool) {
					if round%2 == 0 {
						return long, c.below(33), c.below(4) < far
					}
					return 1 + c.below(16), c.below(33), c.below(4) < far
				})
				b := fillBranch(from, func() int {
					if round%2 == 0 {
						return long
					}
					return 1 + c.below(16)
				})
				most = max(most, fewParts(t, to, l), fewParts(t, to, b))
			}
		}
	}
	if most < 2 {
		t.Errorf("no node had two parts")
	}
}

// A node of G1 may have three pieces in another one: small items whose values stand elsewhere, and one at the middle that is as great as may be.
func TestP64Three(t *testing.T) {
	most := 0
	for at := range 30 {
		n := node.Node{Leaf: true}
		for k := range 27 {
			n.Items = append(n.Items, away(key(2*k, 1), 33, k+2))
		}
		if !node.Right(api.G1, n) {
			t.Fatal("there may be no such leaf")
		}
		n = node.With(n, near(append(key(2*at, 1), key(1, 23)...), 32))
		most = max(most, fewParts(t, api.G3, n))
	}
	if most != 3 {
		t.Errorf("at most %d parts", most)
	}
}

// Of numbers that are no generation, nothing takes room: so all fits, and nothing is cut.
func TestP63NoGeneration(t *testing.T) {
	for _, g := range noGens {
		for i, n := range []node.Node{{}, {Leaf: true}, even(50, 4, 32), evenKids(60, 9)} {
			if l := node.Parts(g, n); len(l) != 1 || len(l[0].Key) != 0 || !equal(l[0].N, n) {
				t.Errorf("%d: node %d is cut", g, i)
			}
		}
	}
}

// Calls end, and don't panic, whatever the nodes are: of both kinds at once, with keys that do not rise, and with numbers that may not be.
func TestP6AnyNode(t *testing.T) {
	c := chance(11)
	keyOf := func() []byte { return key(c.below(9), c.below(5)) }
	anyNode := func() node.Node {
		n := node.Node{Leaf: c.below(2) == 0}
		for range c.below(90) * c.below(2) {
			n.Items = append(n.Items, item.Item{Key: keyOf(), Value: make([]byte, c.below(50)), Size: c.below(99) - 40, Ref: c.below(5) - 2})
		}
		for range c.below(90) * c.below(2) {
			n.Kids = append(n.Kids, node.Kid{Key: keyOf(), Ref: c.below(5) - 2})
		}
		return n
	}
	for range 3000 {
		g := c.below(6) - 1
		n, m := anyNode(), anyNode()
		a, b := copyOf(n), copyOf(m)
		node.Right(g, n)
		node.Room(g, n)
		node.Fits(g, n)
		node.Low(g, n)
		node.Same(n, m)
		node.Side(n, keyOf())
		if k, _ := node.Find(n, keyOf()); k < 0 || k > len(n.Items) {
			t.Fatal("Find:", k)
		}
		node.With(n, item.Item{Key: keyOf(), Ref: -1})
		if w, is := node.Without(n, keyOf()); !is && !equal(w, n) {
			t.Fatal("Without:", w)
		}
		node.Swap(n, c.below(100)-5, c.below(100)-5, m.Kids)
		if l := node.Parts(g, n); len(l) == 0 {
			t.Fatal("no parts")
		}
		node.Join(n, m, keyOf())
		if !equal(n, a) || !equal(m, b) {
			t.Fatal("what was given is changed")
		}
	}
}
