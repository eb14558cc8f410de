package edit_test

import (
	"bytes"
	"fmt"
	"maps"
	"math"
	"slices"
	"testing"

	"regauge/api"
	"regauge/edit"
	"regauge/item"
	"regauge/node"
	"regauge/tree"
)

var allGens = []int{api.G1, api.G2, api.G3}

// entryOf is an item of 37 bytes in each generation, if its key has one byte.
func entryOf(key string) item.Item {
	return item.Of([]byte(key), bytes.Repeat([]byte{key[0]}, 32))
}

// leaf is a leaf of such items, one for each letter.
func leaf(letters string) node.Node {
	n := node.Node{Leaf: true}
	for k := range letters {
		n.Items = append(n.Items, entryOf(letters[k:k+1]))
	}
	return n
}

// branch is a branch of a first kid, and of others, each behind its Key.
func branch(first int, others ...any) node.Node {
	n := node.Node{Kids: []node.Kid{{Ref: first}}}
	for k := 0; k < len(others); k += 2 {
		n.Kids = append(n.Kids, node.Kid{Key: []byte(others[k].(string)), Ref: others[k+1].(int)})
	}
	return n
}

type nodes map[int]node.Node

func (l nodes) source(ref int) (node.Node, api.Errno) {
	if n, is := l[ref]; is {
		return n, api.OK
	}
	return node.Node{}, api.ErrRange
}

func (l nodes) with(ref int, n node.Node) nodes {
	other := maps.Clone(l)
	other[ref] = n
	return other
}

func (l nodes) without(refs ...int) nodes {
	other := maps.Clone(l)
	for _, ref := range refs {
		delete(other, ref)
	}
	return other
}

// three is a tree of three leaves, none of which is low.
func three() nodes {
	return nodes{9: branch(2, "d", 3, "g", 4), 2: leaf("abc"), 3: leaf("def"), 4: leaf("ghi")}
}

// tall is a tree of three floors: to drop anything joins a leaf and its sibling, and the branches above them.
func tall() nodes {
	return nodes{
		30: branch(20, "e", 21, "i", 22), 20: branch(10, "c", 11), 21: branch(12, "g", 13), 22: branch(14, "k", 15),
		10: leaf("ab"), 11: leaf("cd"), 12: leaf("ef"), 13: leaf("gh"), 14: leaf("ij"), 15: leaf("kl"),
	}
}

// as is a leaf's change to that node.
func as(n node.Node) func(node.Node) (node.Node, api.Errno) {
	return func(node.Node) (node.Node, api.Errno) { return n, api.OK }
}

func mustNew(t *testing.T, src tree.Source, g int) *edit.Draft {
	t.Helper()
	d := edit.New(src, g)
	if d == nil {
		t.Fatal("no draft")
	}
	return d
}

// wantOwn holds a draft's nodes against those of that many numbers, from -1 on: one that is neither leaf nor branch of anything is none of its own.
func wantOwn(t *testing.T, what string, d *edit.Draft, gone []int, own ...node.Node) {
	t.Helper()
	many := 0
	for k, want := range own {
		n, e := d.Node(-1 - k)
		if node.Same(want, node.Node{}) {
			if e != api.ErrTreeForm || !node.Same(n, node.Node{}) {
				t.Fatalf("%s: %d is %v, error %d, want none", what, -1-k, n, e)
			}
			continue
		}
		many++
		if e != api.OK || !node.Same(n, want) {
			t.Fatalf("%s: %d is %v, error %d, want %v", what, -1-k, n, e, want)
		}
	}
	for _, ref := range []int{-1 - len(own), -2 - len(own), math.MinInt} {
		if n, e := d.Node(ref); e != api.ErrTreeForm || !node.Same(n, node.Node{}) {
			t.Fatalf("%s: %d is %v, error %d, want none", what, ref, n, e)
		}
	}
	if d.Many() != many || !slices.Equal(d.Gone(), gone) {
		t.Fatalf("%s: %d nodes, gone %v; want %d, %v", what, d.Many(), d.Gone(), many, gone)
	}
}

func wantRoot(t *testing.T, what string, root int, e api.Errno, want int, wantE api.Errno) {
	t.Helper()
	if root != want || e != wantE {
		t.Fatalf("%s: root %d, error %d; want %d, %d", what, root, e, want, wantE)
	}
}

// letters is the keys of a tree that is one.
func letters(t *testing.T, d *edit.Draft, root int) string {
	t.Helper()
	w, e := tree.All(d.Node, root)
	if e != api.OK {
		t.Fatalf("All of %d: error %d", root, e)
	}
	s := ""
	for _, it := range w.Items {
		s += string(it.Key)
	}
	return s
}

func TestP141New(t *testing.T) {
	l := three()
	for _, g := range []int{math.MinInt, -1, 0, 4, 5, 256, 257, 1<<32 + 1, math.MaxInt} {
		if edit.New(l.source, g) != nil || edit.New(nil, g) != nil {
			t.Errorf("a draft of generation %d", g)
		}
	}
	for _, g := range allGens {
		if edit.New(nil, g) != nil {
			t.Errorf("a draft over no source")
		}
		wantOwn(t, fmt.Sprint("new, of ", g), mustNew(t, l.source, g), nil)
	}
}

func TestP141Node(t *testing.T) {
	l := nodes{0: leaf("a"), 1: branch(0, "b", 7), math.MaxInt: leaf("")}
	var asked []int
	d := mustNew(t, func(ref int) (node.Node, api.Errno) {
		asked = append(asked, ref)
		if ref == 5 {
			panic("no node")
		}
		if ref == 6 {
			return leaf("a"), api.Errno(-7)
		}
		return l.source(ref)
	}, api.G2)
	for _, ref := range []int{0, 1, math.MaxInt} {
		if n, e := d.Node(ref); e != api.OK || !node.Same(n, l[ref]) {
			t.Errorf("%d is %v, error %d", ref, n, e)
		}
	}
	for ref, want := range map[int]api.Errno{2: api.ErrRange, 5: api.ErrTreeForm, 6: api.Errno(-7)} {
		if n, e := d.Node(ref); e != want || !node.Same(n, node.Node{}) {
			t.Errorf("%d is %v, error %d, want %d", ref, n, e, want)
		}
	}
	asked = nil
	for _, ref := range []int{-1, -2, -7, math.MinInt} {
		if n, e := d.Node(ref); e != api.ErrTreeForm || !node.Same(n, node.Node{}) {
			t.Errorf("%d is %v, error %d", ref, n, e)
		}
	}
	if len(asked) > 0 {
		t.Error("the source was asked of", asked)
	}
}

// A source's node that is gone is told still: it is the source's.
func TestP141NodeOfGone(t *testing.T) {
	d := mustNew(t, three().source, api.G1)
	if _, e := d.Put(9, entryOf("b")); e != api.OK {
		t.Fatal(e)
	}
	for _, ref := range d.Gone() {
		if n, e := d.Node(ref); e != api.OK || !node.Same(n, three()[ref]) {
			t.Errorf("%d is %v, error %d", ref, n, e)
		}
	}
}

// Nodes may be changed in trees of several roots, each of which is a tree still; what is gone is told once, and rising.
func TestP141Gone(t *testing.T) {
	l := nodes{0: leaf("abc"), math.MaxInt: leaf("def"), 77: leaf("ghi"), 5: branch(0, "d", math.MaxInt)}
	d := mustNew(t, l.source, api.G1)
	want := []string{"[]", "[77]", "[5 77 9223372036854775807]", "[5 77 9223372036854775807]", "[0 5 77 9223372036854775807]"}
	for k, x := range []struct {
		root int
		key  string
	}{{root: -1}, {77, "h"}, {5, "e"}, {77, "g"}, {0, "a"}} {
		if x.root >= 0 {
			if _, e := d.Put(x.root, entryOf(x.key)); e != api.OK {
				t.Fatal(e)
			}
		}
		if got := fmt.Sprint(d.Gone()); got != want[k] {
			t.Errorf("%d: gone %s, want %s", k, got, want[k])
		}
	}
	if d.Many() != 5 {
		t.Error("nodes:", d.Many())
	}
}

func TestP141Copy(t *testing.T) {
	d := mustNew(t, three().source, api.G1)
	one, e := d.Put(9, entryOf("b"))
	wantRoot(t, "Put", one, e, -2, api.OK)
	c := d.Copy()
	mid := []node.Node{leaf("abc"), branch(-1, "d", 3, "g", 4)}
	wantOwn(t, "a copy", c, []int{2, 9}, mid...)
	two, e := d.Put(one, entryOf("j"))
	wantRoot(t, "Put", two, e, -4, api.OK)
	wantOwn(t, "changed", d, []int{2, 4, 9}, mid[0], node.Node{}, leaf("ghij"), branch(-1, "d", 3, "g", -3))
	wantOwn(t, "its copy", c, []int{2, 9}, mid...)
	other, is, e := c.Drop(one, []byte("e"))
	if !is {
		t.Error("not dropped")
	}
	wantRoot(t, "Drop", other, e, -4, api.OK)
	wantOwn(t, "the copy, changed", c, []int{2, 3, 9}, node.Node{}, node.Node{}, leaf("abcdf"), branch(-3, "g", 4))
	wantOwn(t, "what it was copied from", d, []int{2, 4, 9}, mid[0], node.Node{}, leaf("ghij"), branch(-1, "d", 3, "g", -3))
	again := c.Copy().Copy()
	wantOwn(t, "a copy of a copy", again, []int{2, 3, 9}, node.Node{}, node.Node{}, leaf("abcdf"), branch(-3, "g", 4))
	if letters(t, d, two) != "abcdefghij" || letters(t, again, other) != "abcdfghi" {
		t.Error("other items")
	}
	wantOwn(t, "a copy of nothing", mustNew(t, three().source, api.G3).Copy(), nil)
}

// A copy is of the same generation, over the same source.
func TestP141CopyOfEach(t *testing.T) {
	for _, g := range allGens {
		whole := mustNew(t, nodes{2: leaf("abcdef")}.source, g)
		root, e := whole.Copy().Change(2, nil, as(edgeLeaf(modelCap(g), 1)))
		wantRoot(t, fmt.Sprint("full, of ", g), root, e, -1, api.OK)
		root, e = whole.Copy().Change(2, nil, as(edgeLeaf(modelCap(g)+1, 1)))
		wantRoot(t, fmt.Sprint("too full, of ", g), root, e, -3, api.OK)
	}
}

// edgeLeaf is a leaf that takes that room in each generation, from a key of two bytes on.
func edgeLeaf(room int, from byte) node.Node {
	n := node.Node{Leaf: true}
	for k := byte(0); room > 0; k++ {
		take := min(room, 38)
		if room-take > 0 && room-take < 6 {
			take -= 6
		}
		n.Items = append(n.Items, item.Of([]byte{from, k}, make([]byte, take-6)))
		room -= take
	}
	return n
}

// refused are changes that tell an error.
var refused = []struct {
	what string
	l    nodes
	root int
	key  string
	f    func(node.Node) (node.Node, api.Errno)
	e    api.Errno
}{
	{"no f", three(), 9, "e", nil, api.ErrArg},
	{"no f, and no root", three(), 77, "e", nil, api.ErrArg},
	{"no root", three(), 77, "e", as(leaf("e")), api.ErrRange},
	{"none of its own", three(), -1, "e", as(leaf("e")), api.ErrTreeForm},
	{"no leaf", three().without(3), 9, "e", as(leaf("e")), api.ErrRange},
	{"an empty branch", three().with(3, node.Node{}), 9, "e", as(leaf("e")), api.ErrTreeForm},
	{"a ring", nodes{9: branch(9)}, 9, "e", as(leaf("e")), api.ErrTreeDeep},
	{"no leaf, and an error of f", three().without(3), 9, "e", failing(api.ErrDown), api.ErrRange},
	{"an error of f", three(), 9, "e", failing(api.ErrDown), api.ErrDown},
	{"an error of f below 0", three(), 9, "e", failing(-3), -3},
	{"an error of f, and no sibling", three().without(2), 9, "e", failing(api.ErrFull), api.ErrFull},
	{"f panics", three(), 9, "e", func(node.Node) (node.Node, api.Errno) { panic("no leaf") }, api.ErrArg},
	{"no sibling", three().without(2), 9, "e", as(leaf("e")), api.ErrRange},
	{"no sibling behind the first kid", three().without(3), 9, "a", as(leaf("a")), api.ErrRange},
	{"a sibling of the other kind", three().with(2, branch(3, "c", 4)), 9, "e", as(leaf("e")), api.ErrTreeForm},
	{"a branch beside a leaf", three(), 9, "e", as(branch(2, "c", 4)), api.ErrTreeForm},
	{"no sibling of the branch", tall().without(20), 30, "g", as(leaf("g")), api.ErrRange},
	{"no sibling of the last branch", tall().without(21), 30, "j", as(leaf("j")), api.ErrRange},
	{"no sibling of the first branch", tall().without(21), 30, "a", as(leaf("a")), api.ErrRange},
	{"no siblings of both", tall().without(20).with(12, node.Node{}), 30, "g", as(leaf("g")), api.ErrTreeForm},
	{"no kid below a branch that is left out", nodes{2: leaf("a")}, 2, "a", as(branch(3)), api.ErrRange},
	{"none of its own below it", nodes{2: leaf("a")}, 2, "a", as(branch(-5)), api.ErrTreeForm},
	{"a ring below it", nodes{2: leaf("a"), 3: branch(4), 4: branch(3)}, 2, "a", as(branch(3)), api.ErrTreeDeep},
	{"keys of which no two fit", nodes{2: leaf("a")}, 2, "a", as(wide("b", 300)), api.ErrTreeDeep},
	{"and one more", three(), 9, "i", as(wide("h", 300)), api.ErrTreeDeep},
	{"too many floors", stairs(11, leaf("mnopqr"), 0), 0, "m", as(leaf("mnopqrs")), api.ErrTreeDeep},
}

func failing(e api.Errno) func(node.Node) (node.Node, api.Errno) {
	return func(n node.Node) (node.Node, api.Errno) { return n, e }
}

// wide is a leaf of two items whose keys are that long.
func wide(from string, long int) node.Node {
	n := node.Node{Leaf: true}
	for k := range 2 {
		n.Items = append(n.Items, item.Of(append(bytes.Repeat([]byte(from), long-1), byte('a'+k)), nil))
	}
	return n
}

// stairs is so many branches, one below the other from number 0 on, and a leaf below them; each but the first free ones is full of other kids, that there are not, so that one more cuts it.
func stairs(many int, end node.Node, free int) nodes {
	l := nodes{many: end}
	for k := range many {
		n := branch(1000)
		for x := range 33 {
			n.Kids = append(n.Kids, node.Kid{Key: []byte{byte(k + 1), byte(x)}, Ref: 1000})
		}
		n.Kids = append(n.Kids, node.Kid{Key: []byte{byte(k + 1), 255}, Ref: k + 1})
		if k < free {
			n.Kids = n.Kids[20:]
			n.Kids[0].Key = nil
		}
		l[k] = n
	}
	return l
}

func TestP142Refused(t *testing.T) {
	for _, x := range refused {
		d := mustNew(t, x.l.source, api.G1)
		root, e := d.Change(x.root, []byte(x.key), x.f)
		wantRoot(t, x.what, root, e, 0, x.e)
		wantOwn(t, x.what, d, nil)
	}
}

// Behind what is refused a draft goes on as if it had not been asked, with what it has, and with the next number.
func TestP142RefusedLater(t *testing.T) {
	for _, x := range refused {
		l := maps.Clone(x.l)
		l[500], l[501] = leaf("abcdefg"), leaf("xy")
		d := mustNew(t, l.source, api.G1)
		root, e := d.Put(500, entryOf("b"))
		wantRoot(t, x.what, root, e, -3, api.OK)
		own := []node.Node{leaf("abcd"), leaf("efg"), branch(-1, "e", -2)}
		if x.root >= 0 && x.e != api.ErrTreeForm {
			_, e = d.Change(x.root, []byte(x.key), x.f)
			if e != x.e {
				t.Fatalf("%s: error %d, want %d", x.what, e, x.e)
			}
		}
		wantOwn(t, x.what, d, []int{500}, own...)
		next, e := d.Put(501, entryOf("z"))
		wantRoot(t, x.what, next, e, -4, api.OK)
		wantOwn(t, x.what, d, []int{500, 501}, append(own, leaf("xyz"))...)
	}
}

// Of several errors the one that is met first going upwards is told; f is asked once, of the leaf, and not at all ahead of an error of the path.
func TestP142Asked(t *testing.T) {
	for k, x := range []struct {
		l     nodes
		root  int
		key   string
		f     func(node.Node) (node.Node, api.Errno)
		asked []int
		calls int
	}{
		{three(), 9, "e", as(leaf("dhe")), []int{9, 3}, 1},
		{three(), 9, "e", as(leaf("de")), []int{9, 3, 2}, 1},
		{three(), 9, "a", as(leaf("ab")), []int{9, 2, 3}, 1},
		{three(), 9, "z", as(leaf("gh")), []int{9, 4, 3}, 1},
		{three(), 9, "e", failing(api.ErrDown), []int{9, 3}, 1},
		{three().without(3), 9, "e", as(leaf("de")), []int{9, 3}, 0},
		{three().without(9), 9, "e", as(leaf("de")), []int{9}, 0},
		{nodes{2: leaf("a")}, 2, "a", as(leaf("")), []int{2}, 1},
		{nodes{9: branch(2), 2: leaf("a")}, 9, "a", as(leaf("")), []int{9, 2}, 1},
		{tall(), 30, "h", as(leaf("g")), []int{30, 21, 13, 12, 20}, 1},
		{tall().without(12), 30, "h", as(leaf("g")), []int{30, 21, 13, 12}, 1},
		{tall().with(12, leaf("cdefg")), 30, "h", as(leaf("ghi")), []int{30, 21, 13, 20}, 1},
	} {
		var asked []int
		src := func(ref int) (node.Node, api.Errno) {
			asked = append(asked, ref)
			return x.l.source(ref)
		}
		calls := 0
		d := mustNew(t, src, api.G1)
		d.Change(x.root, []byte(x.key), func(n node.Node) (node.Node, api.Errno) {
			if calls++; !node.Same(n, x.l[asked[len(asked)-1]]) {
				t.Errorf("%d: f was told %v", k, n)
			}
			return x.f(n)
		})
		if !slices.Equal(asked, x.asked) || calls != x.calls {
			t.Errorf("%d: asked of %v, %d calls of f; want %v, %d", k, asked, calls, x.asked, x.calls)
		}
	}
}

// A leaf that is just not low stays alone; a byte less, and it takes its sibling's place, too.
func TestP142Low(t *testing.T) {
	for g, edge := range map[int]int{api.G1: 83, api.G2: 80, api.G3: 80} {
		for room := edge - 3; room <= edge+3; room++ {
			l := nodes{9: branch(2, "d", 3), 2: leaf("abc"), 3: leaf("def")}
			d := mustNew(t, l.source, g)
			n := edgeLeaf(room, 'd')
			root, e := d.Change(9, []byte("d"), as(n))
			if room >= edge {
				wantRoot(t, fmt.Sprint(g, " not low ", room), root, e, -2, api.OK)
				wantOwn(t, fmt.Sprint(g, " not low ", room), d, []int{3, 9}, n, branch(2, "d", -1))
				continue
			}
			wantRoot(t, fmt.Sprint(g, " low ", room), root, e, -1, api.OK)
			wantOwn(t, fmt.Sprint(g, " low ", room), d, []int{2, 3, 9}, node.Node{Leaf: true, Items: slices.Concat(leaf("abc").Items, n.Items)})
		}
	}
}

// A branch that is just not low stays alone, too: a byte of a Key less, and it takes its sibling's place.
func TestP142LowBranch(t *testing.T) {
	for g, edge := range map[int]int{api.G1: 83, api.G2: 80, api.G3: 80} {
		for _, less := range []int{0, 1} {
			fixed := 3 * (1 + modelId(g))
			long := edge - less - fixed
			l := nodes{9: branch(7, "k", 8), 7: branch(2, "c", 3), 8: branch(4, "m", 5, "p", 6)}
			l[8].Kids[1].Key, l[8].Kids[2].Key = append([]byte("m"), make([]byte, long/2-1)...), append([]byte("p"), make([]byte, long-long/2-1)...)
			l[6] = node.Node{Leaf: true, Items: []item.Item{item.Of([]byte("q"), make([]byte, 32))}}
			d := mustNew(t, l.source, g)
			root, e := d.Change(9, []byte("q"), as(leaf("qrs")))
			up := node.Swap(l[8], 2, 1, []node.Kid{{Key: l[8].Kids[2].Key, Ref: -1}})
			if less == 0 {
				wantRoot(t, "not low", root, e, -3, api.OK)
				wantOwn(t, "not low", d, []int{6, 8, 9}, leaf("qrs"), up, branch(7, "k", -2))
				continue
			}
			up.Kids[0].Key = []byte("k")
			wantRoot(t, "low", root, e, -2, api.OK)
			wantOwn(t, "low", d, []int{6, 7, 8, 9}, leaf("qrs"), node.Swap(l[7], 2, 0, up.Kids))
		}
	}
}

// In a branch of five kids each one is low once; its sibling is small, or so full that both are cut again.
func TestP142EachPlace(t *testing.T) {
	refs, keys := []int{40, 41, 42, 43, 44}, []string{"", "g", "n", "t", "x"}
	all := []string{"abc", "ghi", "nop", "tuv", "xyz"}
	full := []string{"abcdef", "ghijkl", "nopqrs", "tuvw", "xyz{|}"}
	for k := range refs {
		for _, have := range [][]string{all, full} {
			l := nodes{9: branch(40, "g", 41, "n", 42, "t", 43, "x", 44)}
			for i, ref := range refs {
				l[ref] = leaf(have[i])
			}
			d := mustNew(t, l.source, api.G1)
			low := have[k][:1]
			root, e := d.Change(9, []byte(low), as(leaf(low)))
			first := max(k-1, 0)
			both := low + have[1]
			if k > 0 {
				both = have[k-1] + low
			}
			swapped := []node.Kid{{Key: []byte(keys[first]), Ref: -1}}
			own := []node.Node{leaf(both)}
			if len(both) > 6 {
				own = []node.Node{leaf(both[:4]), leaf(both[4:])}
				swapped = append(swapped, node.Kid{Key: []byte(both[4:5]), Ref: -2})
			}
			own = append(own, node.Swap(l[9], first, 2, swapped))
			what := fmt.Sprintf("kid %d of %v", k, have)
			wantRoot(t, what, root, e, -len(own), api.OK)
			wantOwn(t, what, d, []int{9, refs[first], refs[first+1]}, own...)
		}
	}
}

// Branches are joined by the Key of the second one, and cut again, each piece but the first one under a Key that stood in it.
func TestP142Branches(t *testing.T) {
	d := mustNew(t, tall().source, api.G1)
	for _, x := range []struct {
		key  string
		top  node.Node
		gone []int
	}{
		{"a", node.Swap(branch(-2), 1, 0, []node.Kid{{Key: []byte("i"), Ref: 22}}), []int{10, 11, 20, 21, 30}},
		{"e", node.Swap(branch(-2), 1, 0, []node.Kid{{Key: []byte("i"), Ref: 22}}), []int{12, 13, 20, 21, 30}},
		{"k", node.Swap(branch(20), 1, 0, []node.Kid{{Key: []byte("e"), Ref: -2}}), []int{14, 15, 21, 22, 30}},
	} {
		c := d.Copy()
		root, is, e := c.Drop(30, []byte(x.key))
		if !is {
			t.Error("not dropped:", x.key)
		}
		wantRoot(t, x.key, root, e, -3, api.OK)
		if n, e := c.Node(-3); e != api.OK || !node.Same(n, x.top) || !slices.Equal(c.Gone(), x.gone) {
			t.Errorf("%s: %v, gone %v", x.key, n, c.Gone())
		}
	}
	wantOwn(t, "after a", dropped(t, d, 30, "a"), []int{10, 11, 20, 21, 30}, leaf("bcd"), branch(-1, "e", 12, "g", 13), branch(-2, "i", 22))
	wantOwn(t, "after e", dropped(t, d, 30, "e"), []int{12, 13, 20, 21, 30}, leaf("fgh"), branch(10, "c", 11, "e", -1), branch(-2, "i", 22))
	wantOwn(t, "after k", dropped(t, d, 30, "k"), []int{14, 15, 21, 22, 30}, leaf("ijl"), branch(12, "g", 13, "i", -1), branch(20, "e", -2))
}

// dropped is a copy without a key.
func dropped(t *testing.T, d *edit.Draft, root int, key string) *edit.Draft {
	t.Helper()
	c := d.Copy()
	if _, is, e := c.Drop(root, []byte(key)); !is || e != api.OK {
		t.Fatalf("Drop of %s: %v, error %d", key, is, e)
	}
	return c
}

// A low branch and a full sibling are cut again: the second piece stands under the Key that its first kid had.
func TestP142BranchesCut(t *testing.T) {
	full := branch(100)
	for k := range 30 {
		full.Kids = append(full.Kids, node.Kid{Key: []byte{'b', byte(k), byte(k)}, Ref: 101 + k})
	}
	l := nodes{9: branch(7, "k", 8), 7: full, 8: branch(4, "m", 5), 4: leaf("k"), 5: leaf("mno")}
	d := mustNew(t, l.source, api.G1)
	root, is, e := d.Drop(9, []byte("n"))
	if !is {
		t.Error("not dropped")
	}
	wantRoot(t, "cut", root, e, -4, api.OK)
	first, second := node.Swap(full, 17, 99, nil), node.Swap(full, 0, 17, nil)
	key := second.Kids[0].Key
	second.Kids[0].Key = nil
	second = node.Swap(second, 14, 0, []node.Kid{{Key: []byte("k"), Ref: -1}})
	wantOwn(t, "cut", d, []int{4, 5, 7, 8, 9}, leaf("kmo"), first, second, branch(-2, string(key), -3))
}

// The root grows by as many floors as it takes; numbers are given from the leaves upwards, from left to right.
func TestP142Grows(t *testing.T) {
	many := node.Node{Leaf: true}
	for k := range 500 {
		many.Items = append(many.Items, item.Of(fmt.Appendf(nil, "%015d", k), make([]byte, 32)))
	}
	for g, depth := range map[int]int{api.G1: 4, api.G2: 4, api.G3: 4} {
		d := mustNew(t, nodes{2: leaf("")}.source, g)
		root, e := d.Change(2, nil, as(many))
		w, no := tree.All(d.Node, root)
		if e != api.OK || no != api.OK || w.Depth != depth || !slices.EqualFunc(w.Items, many.Items, item.Same) || root != -d.Many() {
			t.Fatalf("%d: error %d, All's %d, depth %d, %d items, root %d of %d", g, e, no, w.Depth, len(w.Items), root, d.Many())
		}
		for k := range d.Many() {
			if n, _ := d.Node(-1 - k); !node.Fits(g, n) {
				t.Errorf("%d: %d does not fit", g, -1-k)
			}
		}
		wantFloors(t, d, root)
		root, e = d.Change(root, nil, as(leaf("")))
		if e != api.OK || len(letters(t, d, root)) == 0 {
			t.Errorf("%d: emptied: error %d", g, e)
		}
	}
}

// wantFloors holds that nodes of each floor are numbered from left to right, behind all of the floor below.
func wantFloors(t *testing.T, d *edit.Draft, root int) {
	t.Helper()
	next := root
	for floor := []int{root}; len(floor) > 0; {
		var below []int
		for _, ref := range slices.Backward(floor) {
			if ref != next {
				t.Fatalf("%d where %d was to be", ref, next)
			}
			next++
		}
		for _, ref := range floor {
			n, _ := d.Node(ref)
			for _, kid := range n.Kids {
				below = append(below, kid.Ref)
			}
		}
		floor = below
	}
	if next != 0 {
		t.Fatal("other nodes than those of the tree:", next)
	}
}

// A root that is a branch with one kid is left out, and so are such ones below it.
func TestP142Lone(t *testing.T) {
	l := nodes{9: branch(8), 8: branch(7), 7: branch(2), 2: leaf("abc"), 6: branch(7), 5: branch(6, "m", 4), 4: leaf("mno")}
	for _, x := range []struct {
		root, want int
		gone       []int
		own        []node.Node
	}{
		{2, -1, []int{2}, []node.Node{leaf("abcd")}},
		{7, -1, []int{2, 7}, []node.Node{leaf("abcd")}},
		{8, -1, []int{2, 7, 8}, []node.Node{leaf("abcd"), {}}},
		{9, -1, []int{2, 7, 8, 9}, []node.Node{leaf("abcd"), {}, {}}},
	} {
		d := mustNew(t, l.source, api.G1)
		root, e := d.Put(x.root, entryOf("d"))
		wantRoot(t, fmt.Sprint(x.root), root, e, x.want, api.OK)
		wantOwn(t, fmt.Sprint(x.root), d, x.gone, x.own...)
		root, e = d.Put(root, entryOf("e"))
		wantRoot(t, fmt.Sprint(x.root, " again"), root, e, -1-len(x.own), api.OK)
	}
	// Below a branch with two kids they are not left out, if they have no sibling that they can be joined with, and are not low.
	d := mustNew(t, l.with(5, branch(6, "m", 4)).with(4, branch(3, "n", 2)).with(3, leaf("m")).source, api.G1)
	root, e := d.Put(5, entryOf("d"))
	wantRoot(t, "joined", root, e, -3, api.OK)
	wantOwn(t, "joined", d, []int{2, 4, 5, 6, 7}, leaf("abcd"), branch(-1), branch(-2, "m", 3, "n", 2))
}

// Of what f tells in a leaf's place a branch with one kid is left out likewise, whoever's that kid is.
func TestP142LoneOfF(t *testing.T) {
	l := nodes{2: leaf("abc"), 3: branch(4), 4: branch(5), 5: leaf("xyz"), 6: branch(3, "b", 4), 9: branch(2)}
	for k, x := range []struct {
		root, kid, want int
		gone            []int
		own             []node.Node
	}{
		{2, 5, 5, []int{2}, nil},
		{2, 4, 5, []int{2, 4}, nil},
		{2, 3, 5, []int{2, 3, 4}, nil},
		{2, 6, 6, []int{2}, nil},
		{9, 3, 5, []int{2, 3, 4, 9}, []node.Node{{}}},
	} {
		d := mustNew(t, l.source, api.G1)
		root, e := d.Change(x.root, []byte("b"), as(branch(x.kid)))
		wantRoot(t, fmt.Sprint(k), root, e, x.want, api.OK)
		wantOwn(t, fmt.Sprint(k), d, x.gone, x.own...)
	}
	d := mustNew(t, l.source, api.G1)
	own, _ := d.Put(5, entryOf("w"))
	root, e := d.Change(2, nil, as(branch(own)))
	wantRoot(t, "its own", root, e, -1, api.OK)
	wantOwn(t, "its own", d, []int{2, 5}, leaf("wxyz"))
}

// Lone branches are gone through as far as a tree may be deep: so a ring of them ends.
func TestP142LoneFloors(t *testing.T) {
	for many := range 14 {
		l := nodes{many: leaf("a"), 50: leaf("")}
		for k := range many {
			l[k] = branch(k + 1)
		}
		d := mustNew(t, l.source, api.G1)
		root, e := d.Change(50, nil, as(branch(0)))
		if many > 11 {
			wantRoot(t, fmt.Sprint("f's, ", many), root, e, 0, api.ErrTreeDeep)
		} else {
			wantRoot(t, fmt.Sprint("f's, ", many), root, e, many, api.OK)
		}
		delete(l, 50)
		d = mustNew(t, l.source, api.G1)
		root, e = d.Put(0, entryOf("b"))
		if many > 11 {
			wantRoot(t, fmt.Sprint(many), root, e, 0, api.ErrTreeDeep)
			wantOwn(t, fmt.Sprint(many), d, nil)
			continue
		}
		wantRoot(t, fmt.Sprint(many), root, e, -1, api.OK)
		wantOwn(t, fmt.Sprint(many), d, slices.Sorted(maps.Keys(l)), append([]node.Node{leaf("ab")}, make([]node.Node, max(many-1, 0))...)...)
	}
}

// Floors are added below MaxDepth of them alone, so that what was told is found again.
func TestP142Deep(t *testing.T) {
	for many := range 12 {
		for _, free := range []int{0, 1, many} {
			l := stairs(many, leaf("cdefgh"), min(free, many))
			d := mustNew(t, l.source, api.G1)
			root, e := d.Put(0, entryOf("i"))
			grows := free == 0 || many == 0
			if grows && many == 11 {
				wantRoot(t, "deep", root, e, 0, api.ErrTreeDeep)
				wantOwn(t, "deep", d, nil)
				continue
			}
			path, no := tree.Path(d.Node, root, []byte("i"))
			want := many + 1
			if grows {
				want++
			}
			if e != api.OK || no != api.OK || len(path) != want || path[want-1].K != 2 {
				t.Fatalf("%d, %d free: error %d, Path's %d, %d nodes", many, free, e, no, len(path))
			}
		}
	}
}

// Keys of which two fit in a branch, but not three: the root grows by many floors at once, from any depth on.
func TestP142DeepAtOnce(t *testing.T) {
	for many := range 12 {
		for floors := range 10 {
			n := node.Node{Leaf: true}
			for k := range 1 << floors {
				n.Items = append(n.Items, item.Of(fmt.Appendf(nil, "%0150d", k), nil))
			}
			l := stairs(many, leaf("cdefgh"), 0)
			d, m := mustNew(t, l.source, api.G1), newModel(l.source, api.G1)
			root, e := d.Change(0, []byte("c"), as(n))
			want, wantE := m.change(0, []byte("c"), as(n))
			wantRoot(t, fmt.Sprint(many, ", ", floors), root, e, want, wantE)
			if refused := e == api.ErrTreeDeep; many == 0 && refused != (floors > 7) {
				t.Errorf("%d items: error %d", 1<<floors, e)
			}
			if d.Many() != len(m.own) {
				t.Errorf("%d, %d: %d nodes, want %d", many, floors, d.Many(), len(m.own))
			}
		}
	}
}

// What f tells is a leaf if it says so: kids that it has, too, are of no account.
func TestP142BothKinds(t *testing.T) {
	for many := range 3 {
		n := leaf("ab")
		for k := range many {
			n.Kids = append(n.Kids, node.Kid{Ref: 7 + k})
		}
		d := mustNew(t, nodes{2: leaf("a"), 7: n}.source, api.G1)
		root, e := d.Change(2, nil, as(n))
		wantRoot(t, fmt.Sprint(many), root, e, -1, api.OK)
		wantOwn(t, fmt.Sprint(many), d, []int{2}, n)
		root, e = d.Change(root, nil, as(branch(7)))
		wantRoot(t, fmt.Sprint(many, " below a branch"), root, e, 7, api.OK)
	}
}

// f may use the draft itself: what it changed stays so, and no number is given twice.
func TestP142Within(t *testing.T) {
	d := mustNew(t, three().with(5, leaf("xy")).source, api.G1)
	other := 0
	root, e := d.Change(9, []byte("e"), func(n node.Node) (node.Node, api.Errno) {
		other, _ = d.Put(5, entryOf("z"))
		return leaf("deef"), api.OK
	})
	wantRoot(t, "within", other, e, -1, api.OK)
	wantRoot(t, "within", root, e, -3, api.OK)
	wantOwn(t, "within", d, []int{3, 5, 9}, leaf("xyz"), leaf("deef"), branch(2, "d", -2, "g", 4))
	if _, e = d.Change(root, []byte("e"), func(n node.Node) (node.Node, api.Errno) {
		_, e := d.Put(root, entryOf("e"))
		return n, e
	}); e != api.OK {
		t.Error("of the same root:", e)
	}
}

// What f tells stands in the leaf's place, whatever it is.
func TestP142WhatFTells(t *testing.T) {
	for k, x := range []struct {
		f    node.Node
		want int
		own  []node.Node
		gone []int
	}{
		{leaf("def"), -2, []node.Node{leaf("def"), branch(2, "d", -1, "g", 4)}, []int{3, 9}},
		{leaf("defghi"), -2, []node.Node{leaf("defghi"), branch(2, "d", -1, "g", 4)}, []int{3, 9}},
		{leaf(""), -2, []node.Node{leaf("abc"), branch(-1, "g", 4)}, []int{2, 3, 9}},
		{leaf("f"), -2, []node.Node{leaf("abcf"), branch(-1, "g", 4)}, []int{2, 3, 9}},
		{leaf("bbb"), -2, []node.Node{leaf("bbb"), branch(2, "d", -1, "g", 4)}, []int{3, 9}},
		{leaf("defghij"), -3, []node.Node{leaf("defg"), leaf("hij"), branch(2, "d", -1, "h", -2, "g", 4)}, []int{3, 9}},
		{leaf("zyxwvutsrqponml"), -5, []node.Node{leaf("zyxw"), leaf("vuts"), leaf("rqpo"), leaf("nml"), branch(2, "d", -1, "v", -2, "r", -3, "n", -4, "g", 4)}, []int{3, 9}},
		{wide("e", 17), -2, []node.Node{{Leaf: true, Items: slices.Concat(leaf("abc").Items, wide("e", 17).Items)}, branch(-1, "g", 4)}, []int{2, 3, 9}},
	} {
		d := mustNew(t, three().source, api.G1)
		root, e := d.Change(9, []byte("e"), as(x.f))
		wantRoot(t, fmt.Sprint(k), root, e, x.want, api.OK)
		wantOwn(t, fmt.Sprint(k), d, x.gone, x.own...)
	}
}

// An item that no page has room for stands alone: that it may be is not asked here.
func TestP142TooWide(t *testing.T) {
	for _, long := range []int{200, 300, 5000} {
		one := wide("b", long)
		one.Items = one.Items[:1]
		d := mustNew(t, nodes{2: leaf("")}.source, api.G1)
		root, e := d.Put(2, one.Items[0])
		wantRoot(t, fmt.Sprint(long), root, e, -1, api.OK)
		wantOwn(t, fmt.Sprint(long), d, []int{2}, one)
		root, e = d.Put(root, entryOf("c"))
		if long == 200 {
			wantRoot(t, fmt.Sprint(long), root, e, -2, api.OK)
		} else {
			wantRoot(t, fmt.Sprint(long), root, e, -4, api.OK)
		}
	}
}

func TestP143Put(t *testing.T) {
	d := mustNew(t, nodes{2: leaf("bd")}.source, api.G1)
	root, e := d.Put(2, entryOf("c"))
	wantRoot(t, "the chapter's example", root, e, -1, api.OK)
	wantOwn(t, "the chapter's example", d, []int{2}, leaf("bcd"))
	for _, k := range []string{"a", "e"} {
		root, e = d.Put(root, entryOf(k))
	}
	wantRoot(t, "at both ends", root, e, -3, api.OK)
	wantOwn(t, "at both ends", d, []int{2}, node.Node{}, node.Node{}, leaf("abcde"))
	l := leaf("abcde")
	for k, it := range []item.Item{item.Of([]byte("c"), nil), item.Of([]byte("c"), []byte("new")), {Key: []byte("c"), Size: 77, Ref: 123}, item.Of([]byte("c"), make([]byte, 400))} {
		root, e = d.Put(root, it)
		l.Items[2] = it
		wantRoot(t, fmt.Sprint("again ", k), root, e, -4-k, api.OK)
		n, e := d.Node(root)
		if e != api.OK || !node.Same(n, l) || d.Many() != 1 {
			t.Errorf("%d: %v, error %d, %d nodes", k, n, e, d.Many())
		}
	}
	for key, want := range map[string]api.Errno{"": api.OK, "zzz": api.OK} {
		c := d.Copy()
		if _, e := c.Put(root, item.Item{Key: []byte(key)}); e != want {
			t.Errorf("%q: error %d", key, e)
		}
	}
	root, e = d.Put(77, entryOf("a"))
	wantRoot(t, "no root", root, e, 0, api.ErrRange)
	root, e = mustNew(t, three().without(2).source, api.G1).Put(9, entryOf("a"))
	wantRoot(t, "no leaf", root, e, 0, api.ErrRange)
}

// A leaf that is low ahead of Put, and low behind it, is joined, too.
func TestP143PutJoins(t *testing.T) {
	d := mustNew(t, three().with(3, leaf("e")).source, api.G1)
	root, e := d.Put(9, entryOf("f"))
	wantRoot(t, "low", root, e, -2, api.OK)
	wantOwn(t, "low", d, []int{2, 3, 9}, leaf("abcef"), branch(-1, "g", 4))
}

func TestP143Drop(t *testing.T) {
	d := mustNew(t, three().source, api.G1)
	for _, k := range []string{"", "aa", "j", "zzz"} {
		root, is, e := d.Drop(9, []byte(k))
		if is {
			t.Error("dropped:", k)
		}
		wantRoot(t, k, root, e, 9, api.OK)
		wantOwn(t, k, d, nil)
	}
	root, s := 9, "abcdefghi"
	for _, k := range "ehacigbdf" {
		next, is, e := d.Drop(root, []byte(string(k)))
		if !is || e != api.OK {
			t.Fatalf("%c: %v, error %d", k, is, e)
		}
		again, is, e := d.Drop(next, []byte(string(k)))
		if is {
			t.Errorf("%c: dropped twice", k)
		}
		wantRoot(t, "again", again, e, next, api.OK)
		if root < 0 {
			again, is, e = d.Drop(root, []byte(string(k)))
			if is {
				t.Errorf("%c: dropped of what is gone", k)
			}
			wantRoot(t, "of what is gone", again, e, 0, api.ErrTreeForm)
		}
		root = next
		s = string(slices.DeleteFunc([]byte(s), func(c byte) bool { return rune(c) == k }))
		if got := letters(t, d, root); got != s {
			t.Fatalf("%c: %s, want %s", k, got, s)
		}
	}
	n, e := d.Node(root)
	if e != api.OK || !node.Same(n, leaf("")) || d.Many() != 1 || !slices.Equal(d.Gone(), []int{2, 3, 4, 9}) {
		t.Errorf("nothing left: %v, error %d, %d nodes, gone %v", n, e, d.Many(), d.Gone())
	}
}

func TestP143DropRefused(t *testing.T) {
	for k, x := range []struct {
		l    nodes
		root int
		key  string
		e    api.Errno
	}{
		{three(), 77, "e", api.ErrRange},
		{three(), -1, "e", api.ErrTreeForm},
		{three().without(3), 9, "e", api.ErrRange},
		{three().without(3), 9, "ee", api.ErrRange},
		{three().without(2), 9, "e", api.ErrRange},
		{three().with(3, node.Node{}), 9, "e", api.ErrTreeForm},
		{nodes{9: branch(9)}, 9, "e", api.ErrTreeDeep},
	} {
		d := mustNew(t, x.l.source, api.G1)
		root, is, e := d.Drop(x.root, []byte(x.key))
		if is {
			t.Error(k, "dropped")
		}
		wantRoot(t, fmt.Sprint(k), root, e, 0, x.e)
		wantOwn(t, fmt.Sprint(k), d, nil)
	}
	// Of a key that there is not, no sibling is asked for.
	d := mustNew(t, three().without(2).with(3, leaf("e")).source, api.G1)
	root, is, e := d.Drop(9, []byte("f"))
	if is {
		t.Error("dropped")
	}
	wantRoot(t, "no such key", root, e, 9, api.OK)
}
