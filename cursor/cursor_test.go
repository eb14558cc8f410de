package cursor_test

import (
	"fmt"
	"maps"
	"math/rand/v2"
	"slices"
	"testing"

	"regauge/api"
	"regauge/cursor"
	"regauge/item"
	"regauge/node"
	"regauge/tree"
)

func leaf(keys ...string) node.Node {
	n := node.Node{Leaf: true}
	for _, k := range keys {
		n.Items = append(n.Items, item.Of([]byte(k), []byte("v"+k)))
	}
	return n
}

// branch is a branch of a first kid, and of others, each behind its Key.
func branch(first int, others ...any) node.Node {
	n := node.Node{Kids: []node.Kid{{Ref: first}}}
	for k := 0; k < len(others); k += 2 {
		n.Kids = append(n.Kids, node.Kid{Key: []byte(others[k].(string)), Ref: others[k+1].(int)})
	}
	return n
}

// three is a tree of three floors, of whose Keys some are no item's.
func three() nodes {
	return nodes{
		9: branch(7, "m", 8), 7: branch(2, "c", 3), 8: branch(4, "p", 5, "t", 6),
		2: leaf("a", "b"), 3: leaf("d", "l"), 4: leaf("m"), 5: leaf("q"), 6: leaf("x", "y", "z"),
	}
}

// mustNew is a cursor, if the tree is one: of others nothing is promised.
func mustNew(t *testing.T, src tree.Source, root int) *cursor.Cursor {
	t.Helper()
	c := cursor.New(src, root)
	if c == nil {
		t.Fatal("New tells nothing")
	}
	return c
}

func wantItem(t *testing.T, what string, it item.Item, is bool, e api.Errno, want item.Item, wantIs bool, wantE api.Errno) {
	t.Helper()
	if e != wantE || is != wantIs || !item.Same(it, want) {
		t.Fatalf("%s: %v, %v, error %d; want %v, %v, error %d", what, it, is, e, want, wantIs, wantE)
	}
}

// wantKey holds what a call tells against the item of a key, as leaf makes it; of no key against none.
func wantKey(t *testing.T, what string, c *cursor.Cursor, x call, key string) {
	t.Helper()
	var want item.Item
	if key != "" {
		want = item.Of([]byte(key), []byte("v"+key))
	}
	it, is, e := x.do(c)
	wantItem(t, what+": "+x.name, it, is, e, want, key != "", api.OK)
}

// wantError holds that a call tells that error, and nothing else.
func wantError(t *testing.T, what string, c *cursor.Cursor, x call, want api.Errno) {
	t.Helper()
	it, is, e := x.do(c)
	wantItem(t, what+": "+x.name, it, is, e, item.Item{}, false, want)
}

// wantAsModel does a call upon a cursor and upon the model.
func wantAsModel(t *testing.T, what string, c *cursor.Cursor, m *model, x call) {
	t.Helper()
	x.as(m)
	want, wantIs := m.here()
	it, is, e := x.do(c)
	wantItem(t, what+": "+x.name, it, is, e, want, wantIs, api.OK)
}

// wantTree holds that it is one, so that a test can't be at fault where the cursor seems to be.
func wantTree(t *testing.T, what string, p planted) {
	t.Helper()
	if w, e := tree.All(p.source, p.root); e != api.OK || !slices.EqualFunc(w.Items, p.items, item.Same) {
		t.Fatalf("%s is no tree of its items: error %d", what, e)
	}
}

func keysOf(items []item.Item) []string {
	var l []string
	for _, it := range items {
		l = append(l, string(it.Key))
	}
	return l
}

func TestP151New(t *testing.T) {
	if cursor.New(nil, 9) != nil {
		t.Fatal("New of no source tells a cursor")
	}
	asked := 0
	c := mustNew(t, func(ref int) (node.Node, api.Errno) {
		asked++
		return three().source(ref)
	}, 9)
	if asked > 0 {
		t.Fatal("New asks the source")
	}
	wantKey(t, "new", c, next, "a")
	wantKey(t, "new", mustNew(t, three().source, 9), prev, "z")
	for _, ref := range []int{-1, 0, 1, api.MaxPages, 1 << 62} {
		c := mustNew(t, nodes{ref: leaf("k")}.source, ref)
		wantKey(t, fmt.Sprint("root ", ref), c, first, "k")
	}
}

func TestP151Seek(t *testing.T) {
	c := mustNew(t, three().source, 9)
	for _, x := range [][2]string{
		{"", "a"}, {"\x00", "a"}, {"a", "a"}, {"a\x00", "b"}, {"b", "b"}, {"b\x00", "d"}, {"bz", "d"}, {"c", "d"}, {"cz", "d"}, {"d", "d"}, {"d\x00", "l"},
		{"l", "l"}, {"l\x00", "m"}, {"m", "m"}, {"ma", "q"}, {"o", "q"}, {"p", "q"}, {"q", "q"}, {"qq", "x"}, {"s", "x"}, {"t", "x"}, {"w", "x"}, {"x", "x"},
		{"y", "y"}, {"yz", "z"}, {"z", "z"}, {"z\x00", ""}, {"za", ""}, {"\xff\xff\xff\xff\xff", ""},
	} {
		wantKey(t, "three", c, seek(x[0]), x[1])
	}
	it, is, e := c.Seek(nil)
	wantItem(t, "no key", it, is, e, item.Of([]byte("a"), []byte("va")), true, api.OK)
}

func TestP151Moves(t *testing.T) {
	c := mustNew(t, three().source, 9)
	for k, x := range []struct {
		of   call
		want string
	}{
		{next, "a"}, {next, "b"}, {next, "d"}, {next, "l"}, {next, "m"}, {next, "q"}, {next, "x"}, {next, "y"}, {next, "z"}, {next, ""}, {next, "a"}, {prev, ""},
		{prev, "z"}, {prev, "y"}, {prev, "x"}, {prev, "q"}, {next, "x"}, {prev, "q"}, {prev, "m"}, {prev, "l"}, {next, "m"}, {prev, "l"}, {prev, "d"}, {prev, "b"}, {next, "d"},
		{last, "z"}, {last, "z"}, {prev, "y"}, {first, "a"}, {first, "a"}, {next, "b"}, {last, "z"}, {first, "a"}, {prev, ""}, {next, "a"},
		{seek("c"), "d"}, {prev, "b"}, {next, "d"}, {seek("ll"), "m"}, {next, "q"}, {seek("ll"), "m"}, {prev, "l"}, {seek("zz"), ""}, {prev, "z"}, {seek("zz"), ""}, {next, "a"},
		{last, "z"}, {next, ""}, {prev, "z"}, {next, ""}, {next, "a"},
	} {
		wantKey(t, fmt.Sprint("call ", k), c, x.of, x.want)
	}
}

// The chapter's own example.
func TestP151Example(t *testing.T) {
	for _, l := range []nodes{
		{5: leaf("a", "c", "d")},
		{5: branch(2, "b", 3), 2: leaf("a"), 3: leaf("c", "d")},
		{5: branch(2, "c", 3), 2: leaf("a"), 3: leaf("c", "d")},
		{5: branch(2, "d", 3), 2: leaf("a", "c"), 3: leaf("d")},
		{5: branch(2, "b\x00", 3, "cc", 4), 2: leaf("a"), 3: leaf("c"), 4: leaf("d")},
	} {
		c := mustNew(t, l.source, 5)
		wantKey(t, "example", c, seek("b"), "c")
		wantKey(t, "example", c, prev, "a")
		wantKey(t, "example", c, prev, "")
	}
}

func TestP151Empty(t *testing.T) {
	c := mustNew(t, nodes{2: leaf()}.source, 2)
	for _, x := range calls([]string{"", "a"}) {
		for _, y := range calls([]string{"", "a"}) {
			wantKey(t, "empty, behind "+x.name, c, x, "")
			wantKey(t, "empty, behind "+x.name, c, y, "")
		}
	}
}

// A key may be empty, in a tree of which All tells no error.
func TestP151EmptyKey(t *testing.T) {
	p := planted{nodes: nodes{5: branch(2, "b", 3), 2: leaf("", "a"), 3: leaf("b")}, root: 5}
	p.items = slices.Concat(leaf("", "a", "b").Items)
	wantTree(t, "with an empty key", p)
	for _, x := range calls([]string{"", "\x00", "b"}) {
		for _, y := range calls([]string{"", "\x00", "b"}) {
			c, m := mustNew(t, p.source, 5), newModel(p.items)
			wantAsModel(t, "empty key", c, m, x)
			wantAsModel(t, "empty key, behind "+x.name, c, m, y)
		}
	}
}

// All trees of up to six items, and all rows of three calls upon each; of the smaller ones, of four.
func TestP151Rows(t *testing.T) {
	for many := range 7 {
		for k, p := range small(many) {
			what := fmt.Sprint("tree ", k, " of ", many)
			wantTree(t, what, p)
			rows := 3
			if many <= 3 {
				rows = 4
			}
			doRows(t, what, p, calls(around(p.items)), nil, rows)
		}
	}
}

// doRows does each row of calls that begins with those ahead.
func doRows(t *testing.T, what string, p planted, all, ahead []call, more int) {
	t.Helper()
	if more > 0 {
		for _, x := range all {
			doRows(t, what, p, all, append(slices.Clip(ahead), x), more-1)
		}
		return
	}
	c, m := mustNew(t, p.source, p.root), newModel(p.items)
	for _, x := range ahead {
		what += ", " + x.name
		wantAsModel(t, what, c, m, x)
	}
}

// Trees of many shapes, and rows of calls, by chance; each call is as likely as all Seeks.
func TestP151Grown(t *testing.T) {
	for seed := range uint64(150) {
		r := rand.New(rand.NewPCG(seed, 1))
		p := grown(seed, 1+r.IntN(120))
		what := fmt.Sprint("seed ", seed)
		wantTree(t, what, p)
		keys := around(p.items)
		c, m := mustNew(t, p.source, p.root), newModel(p.items)
		for n := range 600 {
			x := []call{next, next, next, prev, prev, prev, seek(keys[r.IntN(len(keys))]), first, last}[r.IntN(9)]
			wantAsModel(t, fmt.Sprint(what, ", call ", n), c, m, x)
		}
	}
}

// Each item is reached by Seek, and both beside it from there.
func TestP151Beside(t *testing.T) {
	for seed := range uint64(40) {
		p := grown(seed, 80)
		c, m := mustNew(t, p.source, p.root), newModel(p.items)
		for _, key := range around(p.items) {
			for _, x := range []call{next, prev, next} {
				wantAsModel(t, "beside", c, m, seek(key))
				wantAsModel(t, "beside "+key, c, m, x)
			}
		}
	}
}

// Two cursors upon one source, and one upon another root of it, go apart.
func TestP151Apart(t *testing.T) {
	l := three()
	a, b, c := mustNew(t, l.source, 9), mustNew(t, l.source, 9), mustNew(t, l.source, 8)
	wantKey(t, "a", a, seek("l"), "l")
	wantKey(t, "b", b, first, "a")
	wantKey(t, "c", c, last, "z")
	wantKey(t, "a", a, next, "m")
	wantKey(t, "b", b, next, "b")
	wantKey(t, "c", c, first, "m")
	wantKey(t, "c", c, prev, "")
	wantKey(t, "b", b, prev, "a")
	wantKey(t, "a", a, prev, "l")
}

// tallest is a tree of as many floors as may be.
func tallest(t *testing.T) planted {
	t.Helper()
	leaves := 1 << (api.MaxDepth - 1)
	var items []item.Item
	for k := range leaves {
		items = append(items, item.Of([]byte{byte(k >> 8), byte(k)}, nil))
	}
	w := newPlanter(items)
	var row []twig
	for k := range leaves {
		row = append(row, w.leaf(k, k+1))
	}
	for len(row) > 1 {
		var above []twig
		for k := 0; k < len(row); k += 2 {
			above = append(above, w.branch(row[k:k+2]))
		}
		row = above
	}
	p := w.done(row[0])
	if w, e := tree.All(p.source, p.root); e != api.OK || w.Depth != api.MaxDepth {
		t.Fatalf("the tallest tree: depth %d, error %d", w.Depth, e)
	}
	return p
}

func TestP153Tallest(t *testing.T) {
	wantBothWays(t, "tallest", tallest(t))
}

// wantBothWays holds P15.3: all items, each once, in order, and the other way round.
func wantBothWays(t *testing.T, what string, p planted) {
	t.Helper()
	c := mustNew(t, p.source, p.root)
	var l []item.Item
	for it, is, e := c.First(); is || e != api.OK; it, is, e = c.Next() {
		l = append(l, it)
		if e != api.OK || len(l) > len(p.items) {
			t.Fatalf("%s: item %d, error %d", what, len(l), e)
		}
	}
	if !slices.EqualFunc(l, p.items, item.Same) {
		t.Fatalf("%s: from First on %v, want %v", what, keysOf(l), keysOf(p.items))
	}
	l = nil
	for it, is, e := c.Last(); is || e != api.OK; it, is, e = c.Prev() {
		l = append(l, it)
		if e != api.OK || len(l) > len(p.items) {
			t.Fatalf("%s: item %d from behind, error %d", what, len(l), e)
		}
	}
	slices.Reverse(l)
	if !slices.EqualFunc(l, p.items, item.Same) {
		t.Fatalf("%s: from Last on, turned round, %v, want %v", what, keysOf(l), keysOf(p.items))
	}
}

func TestP153Small(t *testing.T) {
	for many := range 10 {
		for k, p := range small(many) {
			what := fmt.Sprint("tree ", k, " of ", many)
			wantBothWays(t, what, p)
			wantEach(t, what, p, "")
		}
	}
}

func TestP153Grown(t *testing.T) {
	for seed := range uint64(200) {
		p := grown(seed, 1+int(seed*seed%260))
		what := fmt.Sprint("seed ", seed)
		wantTree(t, what, p)
		wantBothWays(t, what, p)
	}
}

// wantEach holds P15.2: all items whose key is not below from, in order.
func wantEach(t *testing.T, what string, p planted, from string) {
	t.Helper()
	var want, l []item.Item
	for _, it := range p.items {
		if string(it.Key) >= from {
			want = append(want, it)
		}
	}
	for it := range cursor.Each(p.source, p.root, []byte(from)) {
		l = append(l, it)
		if len(l) > len(want) {
			break
		}
	}
	if !slices.EqualFunc(l, want, item.Same) {
		t.Fatalf("%s: Each from %q: %v, want %v", what, from, keysOf(l), keysOf(want))
	}
}

func TestP152Each(t *testing.T) {
	p := planted{nodes: three(), root: 9, items: leaf("a", "b", "d", "l", "m", "q", "x", "y", "z").Items}
	wantTree(t, "three", p)
	for _, from := range around(p.items) {
		wantEach(t, "three", p, from)
	}
	for _, from := range []string{"c", "p", "t", "o", "za"} {
		wantEach(t, "three", p, from)
	}
	for seed := range uint64(30) {
		p := grown(seed, 1+int(seed)*3)
		for _, from := range around(p.items) {
			wantEach(t, fmt.Sprint("seed ", seed), p, from)
		}
	}
	wantEach(t, "empty", planted{nodes: nodes{2: leaf()}, root: 2}, "")
}

func TestP152Nothing(t *testing.T) {
	for range cursor.Each(nil, 9, nil) {
		t.Fatal("Each of no source")
	}
	for range cursor.Each(three().source, 99, nil) {
		t.Fatal("Each of a root that is not there")
	}
	for range cursor.Each(three().source, 9, []byte("z\x00")) {
		t.Fatal("Each from beyond all keys")
	}
	cursor.Each(three().source, 9, nil)(nil)
	cursor.Each(nil, 9, nil)(nil)
}

// Each goes on as long as it is told true: behind a false nobody is told anything, and the source is not asked.
func TestP152Stops(t *testing.T) {
	keys := []string{"a", "b", "d", "l", "m", "q", "x", "y", "z"}
	for most := 1; most <= len(keys); most++ {
		asked, told := 0, 0
		var askedAtEnd int
		each := cursor.Each(func(ref int) (node.Node, api.Errno) {
			asked++
			return three().source(ref)
		}, 9, nil)
		each(func(it item.Item) bool {
			if told == most || string(it.Key) != keys[told] {
				t.Fatalf("of %d, item %d: %s", most, told, it.Key)
			}
			told++
			askedAtEnd = asked
			return told < most
		})
		if told != most || asked != askedAtEnd {
			t.Fatalf("%d items were told, want %d; behind the end the source was asked %d times", told, most, asked-askedAtEnd)
		}
	}
}

// What Each tells may be ranged over again, from its beginning, also within itself; it asks the source just then.
func TestP152Again(t *testing.T) {
	asked := 0
	each := cursor.Each(func(ref int) (node.Node, api.Errno) {
		asked++
		return three().source(ref)
	}, 9, []byte("l"))
	if asked > 0 {
		t.Fatal("Each asks the source before anybody ranges")
	}
	s := ""
	for a := range each {
		for b := range each {
			if string(b.Key) > "q" {
				break
			}
			s += string(a.Key) + string(b.Key) + " "
		}
		if string(a.Key) == "x" {
			break
		}
	}
	if s != "ll lm lq ml mm mq ql qm qq xl xm xq " {
		t.Fatal(s)
	}
}

// The items ahead of an error are told, and nothing more.
func TestP152Error(t *testing.T) {
	for ref, want := range map[int]string{9: "", 7: "", 2: "", 3: "ab", 8: "abdl", 4: "abdl", 5: "abdlm", 6: "abdlmq"} {
		l := three()
		delete(l, ref)
		s := ""
		for it := range cursor.Each(l.source, 9, nil) {
			s += string(it.Key)
		}
		if s != want {
			t.Fatalf("without %d: %s, want %s", ref, s, want)
		}
	}
	l := three()
	delete(l, 3)
	for it := range cursor.Each(l.source, 9, []byte("c")) {
		t.Fatalf("from c on, without 3: %s", it.Key)
	}
	delete(l, 2)
	s := ""
	for it := range cursor.Each(l.source, 9, []byte("m")) {
		s += string(it.Key)
	}
	if s != "mqxyz" {
		t.Fatal("from m on, without 2 and 3:", s)
	}
}

// from is as it was when Each was called, whatever is written into it.
func TestP152From(t *testing.T) {
	from := []byte("m")
	each := cursor.Each(three().source, 9, from)
	for range 2 {
		s := ""
		for it := range each {
			s += string(it.Key)
			from[0] = 'z'
		}
		if s != "mqxyz" || from[0] != 'z' {
			t.Fatal(s, string(from))
		}
	}
}

// lines is what a row of calls tells, as text.
func lines(p planted, r *rand.Rand) string {
	c := cursor.New(p.source, p.root)
	keys := around(p.items)
	s := ""
	for range 200 {
		it, is, e := calls([]string{keys[r.IntN(len(keys))]})[r.IntN(5)].do(c)
		s += fmt.Sprintln(it, is, e)
	}
	return s
}

func TestP15SameAgain(t *testing.T) {
	p := grown(5, 60)
	if lines(p, rand.New(rand.NewPCG(1, 1))) != lines(planted{nodes: maps.Clone(p.nodes), root: p.root, items: p.items}, rand.New(rand.NewPCG(1, 1))) {
		t.Fatal("the same calls tell other answers")
	}
}
