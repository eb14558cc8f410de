package check_test

import (
	"bytes"
	"fmt"
	"math"
	"slices"
	"testing"

	"regauge/api"
	"regauge/check"
	"regauge/crc"
	"regauge/disk"
	"regauge/item"
	"regauge/meta"
	"regauge/node"
	"regauge/page"
	"regauge/pager"
	"regauge/shelf"
	"regauge/tree"
)

// extremes are numbers at the edges of all that a page's number may be.
var extremes = []int{math.MinInt, math.MinInt + 1, -1, 0, 1, api.MaxPages - 1, api.MaxPages, 2 * api.MaxPages, 2*api.MaxPages + 1, 1 << 32, 1<<32 + 2, math.MaxInt/4 + 1, math.MaxInt}

func stable(g, txid, pages int) meta.Meta {
	return meta.Meta{Gen: g, Txid: txid, Root: 2, Pages: pages}
}

func moving(g, target, txid, pages int) meta.Meta {
	return meta.Meta{Gen: g, Phase: meta.Moving, Target: target, Txid: txid, Root: 2, Pages: pages}
}

func TestP161May(t *testing.T) {
	for gen := range 5 {
		for target := range 5 {
			for g := -1; g < 6; g++ {
				for phase, want := range map[int]bool{meta.Stable: g == gen, meta.Moving: g == gen || g == target, 2: g == gen, -1: g == gen} {
					if check.May(meta.Meta{Gen: gen, Phase: phase, Target: target}, g) != want {
						t.Fatalf("May of Gen %d, Phase %d, Target %d, and %d is not %v", gen, phase, target, g, want)
					}
				}
			}
		}
	}
}

func wantHead(t *testing.T, what string, p *pager.Pager, want meta.Meta, wantSlot int, wantE api.Errno) {
	t.Helper()
	if m, slot, e := check.Head(p); e != wantE || slot != wantSlot || !meta.Same(m, want) {
		t.Fatalf("%s: Head is %v, %d, error %d; want %v, %d, error %d", what, m, slot, e, want, wantSlot, wantE)
	}
	if wantE != api.OK {
		wantLook(t, what, p, check.Report{}, wantE)
	}
}

// unknown is the page of a meta of a generation that there is not, but sealed.
func unknown(m meta.Meta) []byte {
	b := encoded(m)
	b[4] = api.G3 + 1
	return crc.Seal(b, 252)
}

// unformed is the page of a meta that is sealed, but not right.
func unformed(m meta.Meta) []byte {
	b := encoded(m)
	b[5] = 7
	return crc.Seal(b, 252)
}

// unsealed is the page of a meta one of whose bits was turned.
func unsealed(m meta.Meta) []byte {
	b := encoded(m)
	b[100] ^= 1
	return b
}

func TestP161Head(t *testing.T) {
	five, six := stable(api.G1, 5, 3), moving(api.G1, api.G3, 6, 3)
	none := meta.Meta{}
	for _, x := range []struct {
		what   string
		zero   []byte
		one    []byte
		want   meta.Meta
		slot   int
		wanted api.Errno
	}{
		{"both", encoded(six), encoded(five), six, 0, api.OK},
		{"the newest in slot 1", encoded(stable(api.G2, 4, 3)), encoded(five), five, 1, api.OK},
		{"the first one alone", encoded(six), nil, six, 0, api.OK},
		{"the second one alone", nil, encoded(five), five, 1, api.OK},
		{"the newest one torn", unsealed(six), encoded(five), five, 1, api.OK},
		{"the newest one of no known generation", unknown(six), encoded(five), five, 1, api.OK},
		{"the older one of no known generation", encoded(six), unknown(five), six, 0, api.OK},
		{"both in the wrong slot", encoded(five), encoded(six), none, 0, api.ErrTxnCorrupt},
		{"one in the wrong slot, the newer one", encoded(stable(api.G1, 7, 3)), encoded(five), five, 1, api.OK},
		{"one of no known generation, alone", unknown(six), nil, none, 0, api.ErrTxnGen},
		{"the other one, alone", nil, unknown(five), none, 0, api.ErrTxnGen},
		{"both of no known generation", unknown(six), unknown(five), none, 0, api.ErrTxnGen},
		{"one of no known generation, one torn", unsealed(six), unknown(five), none, 0, api.ErrTxnGen},
		{"one of no known generation, one in the wrong slot", encoded(five), unknown(five), none, 0, api.ErrTxnGen},
		{"both torn", unsealed(six), unsealed(five), none, 0, api.ErrTxnCorrupt},
		{"both not right", unformed(six), unformed(five), none, 0, api.ErrTxnCorrupt},
		{"zeros", nil, nil, none, 0, api.ErrTxnCorrupt},
	} {
		wantHead(t, x.what, book{0: x.zero, 1: x.one}.pager(3), x.want, x.slot, x.wanted)
		wantHead(t, x.what+", of more pages", book{0: x.zero, 1: x.one}.pager(30), x.want, x.slot, x.wanted)
	}
}

// A disk has as many pages as the newest meta says, or more; what stands in an older one is of no account.
func TestP161HeadOfShortDisk(t *testing.T) {
	m, none := stable(api.G2, 8, 20), meta.Meta{}
	image := book{0: encoded(m), 1: encoded(stable(api.G2, 7, 10))}.image(21)
	for sectors := range 21 * 4 {
		d := disk.Load(image[:sectors*api.Sector], api.MaxDisk)
		switch what := fmt.Sprint(sectors, " sectors"); {
		case sectors >= 80:
			wantHead(t, what, pager.New(d), m, 0, api.OK)
		default:
			wantHead(t, what, pager.New(d), none, 0, api.ErrTxnCorrupt)
		}
	}
	old := book{0: encoded(stable(api.G2, 8, 10)), 1: encoded(stable(api.G2, 7, 20))}
	wantHead(t, "more pages in the older one", old.pager(10), stable(api.G2, 8, 10), 0, api.OK)
	wantHead(t, "one page less", old.pager(9), none, 0, api.ErrTxnCorrupt)
	wantHead(t, "a short disk, of no known generation", book{0: unknown(m)}.pager(1), none, 0, api.ErrTxnGen)
	wantHead(t, "the greatest", book{0: encoded(stable(api.G1, 8, api.MaxPages))}.pager(api.MaxPages), stable(api.G1, 8, api.MaxPages), 0, api.OK)
}

// No pager, and a disk that is down, are told ahead of all else.
func TestP161Unusable(t *testing.T) {
	w := sample()
	files := map[string]*pager.Pager{"whole": w.pager(), "short": w.b.pager(2), "nothing": book{}.pager(0), "unknown": book{0: unknown(w.report.M)}.pager(2), "spoiled": w.b.copy().node(api.G1, 5, leaf()).pager(24)}
	for what, p := range files {
		wantUnusable(t, what, down(p), w.report, api.ErrDown)
	}
	wantUnusable(t, "nil", nil, w.report, api.ErrArg)
}

func wantUnusable(t *testing.T, what string, p *pager.Pager, r check.Report, wantE api.Errno) {
	t.Helper()
	wantHead(t, what, p, meta.Meta{}, 0, wantE)
	wantLook(t, what, p, check.Report{}, wantE)
	wantMap(t, what, p, r, nil, wantE)
	for _, id := range append([]int{2, 3, 9}, extremes...) {
		wantNode(t, what, check.Source(p, r.M), id, node.Node{}, wantE)
		wantValue(t, what, p, r.M, far("a", 300, id), nil, nil, 0, wantE)
	}
	w, e := tree.All(check.Source(p, r.M), r.M.Root)
	if e != wantE || !sameTree(w, tree.Whole{}) {
		t.Fatalf("%s: All of Source tells error %d, want %d", what, e, wantE)
	}
	wantValue(t, what+", near", p, r.M, near("a", "A"), nil, nil, 0, wantE)
	if p == nil {
		wantMap(t, what+", an empty report", p, check.Report{}, nil, wantE)
	}
}

func wantNode(t *testing.T, what string, src tree.Source, id int, want node.Node, wantE api.Errno) {
	t.Helper()
	if n, e := src(id); e != wantE || !node.Same(n, want) {
		t.Fatalf("%s: page %d is %v, error %d; want %v, error %d", what, id, n, e, want, wantE)
	}
}

func TestP161Source(t *testing.T) {
	n, b := leaf(near("a", "A"), far("b", 300, 7)), branch(3, "k", math.MaxInt16/2)
	for g := api.G1; g <= api.G3; g++ {
		m := stable(g, 5, 20)
		p := book{}.node(g, 0, n).node(g, 1, n).node(g, 2, n).node(g, 7, b).node(g, 19, n).node(g, 20, n).pager(25)
		src := check.Source(p, m)
		wantNode(t, "the first page", src, 2, n, api.OK)
		wantNode(t, "a branch, of any kids", src, 7, b, api.OK)
		wantNode(t, "the last page", src, 19, n, api.OK)
		for _, id := range append([]int{3, 20, 21, 24, 25, 26}, extremes...) {
			wantNode(t, fmt.Sprint("generation ", g), src, id, node.Node{}, api.ErrTxnCorrupt)
		}
		for _, pages := range append([]int{2, 20}, extremes...) {
			m.Pages = pages
			want, e := n, api.OK
			if pages <= 19 {
				want, e = node.Node{}, api.ErrTxnCorrupt
			}
			wantNode(t, fmt.Sprint("of ", pages, " pages"), check.Source(p, m), 19, want, e)
		}
	}
}

// A node is told just if its generation may stand; values, lists and what is torn are no nodes.
func TestP161SourceRefuses(t *testing.T) {
	n := leaf(near("a", "A"))
	for g := api.G1; g <= api.G3; g++ {
		for _, m := range []meta.Meta{stable(1, 5, 9), stable(2, 5, 9), stable(3, 5, 9), moving(1, 2, 5, 9), moving(1, 3, 5, 9), moving(2, 3, 5, 9)} {
			want, e := n, api.OK
			if g != m.Gen && g != m.Target {
				want, e = node.Node{}, api.ErrTxnCorrupt
			}
			wantNode(t, fmt.Sprint(m), check.Source(book{}.node(g, 3, n).pager(9), m), 3, want, e)
		}
		m := stable(g, 5, 9)
		b := book{}.value(g, text(1, 40), 3).list(g, shelf.State{Free: runs(8)}, 4).node(g, 5, n).node(g, 6, n).node(g, 7, n)
		b[5][1] = 9
		b[6][200]++
		b[7] = b[7][:100]
		b[7] = append(b[7], bytes.Repeat([]byte{1}, 156)...)
		for id := 2; id < 9; id++ {
			wantNode(t, fmt.Sprint("generation ", g), check.Source(b.pager(9), m), id, node.Node{}, api.ErrTxnCorrupt)
		}
	}
}

// A source reads when it is asked, of the meta as it was handed in; and nothing that it tells is anybody else's.
func TestP161SourceReadsWhenAsked(t *testing.T) {
	n, other := leaf(near("a", "A")), leaf(near("b", "B"))
	p, m := book{}.node(api.G1, 3, n).pager(9), moving(api.G1, api.G2, 5, 9)
	m.Cursor = []byte("k")
	src := check.Source(p, m)
	m.Pages, m.Gen, m.Cursor[0] = 3, api.G3, 'x'
	told, _ := src(3)
	told.Items[0].Key[0], told.Items[0].Value[0] = 'x', 'x'
	wantNode(t, "written into", src, 3, n, api.OK)
	b, _ := page.Encode(api.G2, other)
	p.Disk().Write(12, b)
	wantNode(t, "another node", src, 3, other, api.OK)
	d := p.Disk()
	d.Arm(0)
	d.Sync()
	wantNode(t, "down", src, 3, node.Node{}, api.ErrDown)
	d.Crash(nil)
	wantNode(t, "up again", src, 3, n, api.OK)
}

func wantValue(t *testing.T, what string, p *pager.Pager, m meta.Meta, it item.Item, want []byte, wantIds []int, wantG int, wantE api.Errno) {
	t.Helper()
	if v, ids, g, e := check.Value(p, m, it); e != wantE || g != wantG || !slices.Equal(ids, wantIds) || !bytes.Equal(v, want) {
		t.Fatalf("%s: Value is %d bytes, in %v, of generation %d, error %d; want %d bytes, in %v, of %d, error %d", what, len(v), ids, g, e, len(want), wantIds, wantG, wantE)
	}
}

func TestP161Value(t *testing.T) {
	for g := api.G1; g <= api.G3; g++ {
		for _, size := range []int{33, 40, item.Cap(g), item.Cap(g) + 1, item.MaxValue(g)} {
			ids := []int{14, 15, 16, 17, 18, 19, 20}
			if g != api.G3 {
				ids = []int{14, 3, 20, 2}
			}
			ids = ids[:manyPages(g, size)]
			v := text(g, size)
			p, m, it := book{}.value(g, v, ids...).pager(40), stable(g, 5, 21), far("key", size, 14)
			what := fmt.Sprintf("generation %d, %d bytes", g, size)
			wantValue(t, what, p, m, it, v, ids, g, api.OK)
			for other := api.G1; other <= api.G3; other++ {
				m.Gen = other
				if other != g {
					wantValue(t, what+", which may not stand", p, m, it, nil, nil, 0, api.ErrTxnCorrupt)
				}
			}
			m = stable(g, 5, slices.Max(ids)+1)
			wantValue(t, what+", the last page", p, m, it, v, ids, g, api.OK)
			m.Pages--
			wantValue(t, what+", beyond the last page", p, m, it, nil, nil, 0, api.ErrTxnCorrupt)
			for _, pages := range extremes {
				m.Pages = pages
				if pages <= slices.Max(ids) {
					wantValue(t, what+", no such pages", p, m, it, nil, nil, 0, api.ErrTxnCorrupt)
				} else {
					wantValue(t, what+", any pages", p, m, it, v, ids, g, api.OK)
				}
			}
		}
	}
}

// manyPages is how many pages a value takes that stands in pages of its own, as the chapter of values has it.
func manyPages(g, size int) int {
	n := 0
	for left := size; left > 0; n++ {
		switch {
		case g == api.G1:
			left -= 248
		case g == api.G2 || n == 0:
			left -= 240
		default:
			left -= 256
		}
	}
	return n
}

// Both generations of a store that moves may stand; one of neither may not.
func TestP161ValueMoving(t *testing.T) {
	b := book{}.value(1, text(1, 40), 3).value(2, text(2, 40), 4).value(3, text(3, 40), 5)
	for _, m := range []meta.Meta{moving(1, 2, 5, 9), moving(1, 3, 5, 9), moving(2, 3, 5, 9)} {
		for g := api.G1; g <= api.G3; g++ {
			if g == m.Gen || g == m.Target {
				wantValue(t, fmt.Sprint(m), b.pager(9), m, far("a", 40, g+2), text(g, 40), []int{g + 2}, g, api.OK)
			} else {
				wantValue(t, fmt.Sprint(m), b.pager(9), m, far("a", 40, g+2), nil, nil, 0, api.ErrTxnCorrupt)
			}
		}
	}
}

func TestP161ValueRefuses(t *testing.T) {
	b := book{}.value(api.G1, text(1, 300), 3, 4).value(api.G1, text(2, 40), 5).node(api.G1, 6, leaf()).list(api.G1, shelf.State{Free: runs(8)}, 7)
	b[8], b[0], b[1] = slices.Clone(b[5]), b[5], b[5]
	b[8][50]++
	p, m := b.pager(9), stable(api.G1, 5, 9)
	for _, it := range []item.Item{
		far("a", 299, 3), far("a", 301, 3), far("a", 248, 3), far("a", 249, 3), far("a", 497, 3), far("a", 300, 4),
		far("a", 39, 5), far("a", 41, 5), far("a", 32, 5), far("a", 0, 5), far("a", -40, 5), far("a", 401, 3), far("a", math.MaxInt, 3), far("a", math.MinInt, 3),
		far("a", 40, 6), far("a", 40, 7), far("a", 40, 8), far("a", 40, 2), far("a", 40, 1), far("a", 40, 9), far("a", 40, 10), far("a", 40, -5),
	} {
		wantValue(t, fmt.Sprint(it.Size, " bytes of ", it.Ref), p, m, it, nil, nil, 0, api.ErrTxnCorrupt)
	}
	for _, id := range extremes {
		if id != 0 {
			wantValue(t, fmt.Sprint("page ", id), p, m, far("a", 40, id), nil, nil, 0, api.ErrTxnCorrupt)
		}
	}
}

// An item without Ref has its value itself, whatever else is not as it should be.
func TestP161ValueNear(t *testing.T) {
	for _, m := range []meta.Meta{stable(1, 5, 9), moving(1, 3, 5, 9), {}, {Pages: -1}} {
		for _, size := range []int{0, 1, 32, 33, 5000} {
			it := item.Item{Key: []byte("a"), Value: text(1, size)}
			wantValue(t, fmt.Sprint(size), book{}.pager(0), m, it, text(1, size), nil, 0, api.OK)
			it.Key, it.Size = nil, 77
			wantValue(t, fmt.Sprint(size), book{}.pager(9), m, it, text(1, size), nil, 0, api.OK)
		}
	}
	it := near("a", "value")
	v, _, _, _ := check.Value(book{}.pager(0), meta.Meta{}, it)
	v[0] = 'X'
	if string(it.Value) != "value" {
		t.Fatal("the item's value was written into by what was told")
	}
}

func TestP162Created(t *testing.T) {
	for g := api.G1; g <= api.G3; g++ {
		w := created(g)
		wantLook(t, fmt.Sprint("created: ", g), w.pager(), w.report, api.OK)
		wantMap(t, fmt.Sprint("created: ", g), w.pager(), w.report, nil, api.OK)
		if w.report.Old != 0 || len(w.report.Over)+len(w.report.List) != 0 {
			t.Fatal("a new file has neither values nor a list, and nothing old")
		}
	}
}

func TestP162Sample(t *testing.T) {
	w := sample()
	wantLook(t, "sample", w.pager(), w.report, api.OK)
	wantMap(t, "sample", w.pager(), w.report, w.pairs, api.OK)
	wantAsModel(t, "sample", w.b.image(24))
	wantLook(t, "of a longer disk", w.b.pager(100), w.report, api.OK)
	wantLook(t, "of a longer disk, not of whole pages", loaded(w.b.image(25)[:24*api.Page+api.Sector]), w.report, api.OK)
}

// What is not durable yet is read, too; and nothing is written.
func TestP162WritesNothing(t *testing.T) {
	w := sample()
	for _, x := range []whole{w, {b: book{}}} {
		d := disk.New(api.MaxDisk)
		d.Grow(24 * 4)
		d.Write(0, x.b.image(24))
		ops, pending, image := d.Ops(), d.Pending(), d.Image()
		d.Arm(0)
		p := pager.New(d)
		r, e := check.Look(p)
		if (e == api.OK) != (len(x.b) > 0) {
			t.Fatal("error ", e)
		}
		check.Map(p, r)
		check.Head(p)
		if d.Down() || d.Ops() != ops || d.Pending() != pending || !bytes.Equal(d.Image(), image) {
			t.Fatal("the disk is not as it was")
		}
	}
}

// Of a store that is Stable nothing is old; of one that moves what is not of its target's generation: of nodes, values and lists each alone.
func TestP162Old(t *testing.T) {
	value := text(1, 400)
	for kinds := range 16 {
		g := func(k int) int { return 1 + kinds>>k&1 }
		m := moving(1, 2, 6, 10)
		m.List = 8
		b := book{}.meta(m).node(g(0), 2, branch(3, "b", 4)).node(g(1), 3, leaf(far("a", 400, 5))).node(2, 4, leaf(near("b", "")))
		b.value(g(2), value, 5, 6).list(g(3), shelf.State{Free: runs(7), Held: runs(9)}, 8)
		want := check.Report{
			M: m, Tree: tree.Whole{Items: []item.Item{far("a", 400, 5), near("b", "")}, Refs: []int{2, 3, 4}, Depth: 2},
			Over: []int{5, 6}, List: []int{8}, S: shelf.State{Free: runs(7), Held: runs(9)},
			Old: 2 - g(0) + 2 - g(1) + 2*(2-g(2)) + 2 - g(3),
		}
		wantLook(t, fmt.Sprint("kinds ", kinds), b.pager(10), want, api.OK)
		for _, other := range []meta.Meta{stable(1, 6, 10), stable(2, 6, 10), stable(3, 6, 10), moving(1, 3, 6, 10), moving(2, 3, 6, 10)} {
			other.List = 8
			wantAsModel(t, fmt.Sprint("kinds ", kinds, ", of ", other), b.copy().meta(other).image(10))
		}
	}
}

// spoilt is one way in which a file is not as it should be; what it does to the sample.
type spoilt struct {
	what string
	do   func(b book, m *meta.Meta)
}

func free(of check.Report, less, more []int) shelf.State {
	s := shelf.State{Held: of.S.Held}
	for _, r := range of.S.Free {
		for id := r.At; id < r.At+r.Len; id++ {
			if !slices.Contains(less, id) {
				more = append(more, id)
			}
		}
	}
	s.Free = runs(more...)
	return s
}

func spoilings() []spoilt {
	r := sample().report
	relist := func(less, more []int) func(b book, m *meta.Meta) {
		return func(b book, m *meta.Meta) { b.list(api.G1, free(r, less, more), 22) }
	}
	first, second := r.Tree.Items[:3], r.Tree.Items[3:]
	return []spoilt{
		{"one page more", func(b book, m *meta.Meta) { m.Pages++ }},
		{"one page less, which is free", func(b book, m *meta.Meta) { m.Pages-- }},
		{"no list", func(b book, m *meta.Meta) { m.List = 0 }},
		{"another list, which is a free page", func(b book, m *meta.Meta) { m.List = 2 }},
		{"another list, which is a node", func(b book, m *meta.Meta) { m.List = 4 }},
		{"another root, which is a leaf", func(b book, m *meta.Meta) { m.Root = 4 }},
		{"another root, which is a value", func(b book, m *meta.Meta) { m.Root = 12 }},
		{"another root, which is the list", func(b book, m *meta.Meta) { m.Root = 22 }},
		{"another target", func(b book, m *meta.Meta) { m.Target = api.G2 }},
		{"another generation", func(b book, m *meta.Meta) { m.Gen = api.G2 }},
		{"not Moving", func(b book, m *meta.Meta) { m.Phase, m.Target, m.Cursor = meta.Stable, 0, nil }},
		{"not Moving any more", func(b book, m *meta.Meta) { m.Gen, m.Phase, m.Target, m.Cursor = api.G3, meta.Stable, 0, nil }},
		{"a free page that is told no more", relist([]int{7}, nil)},
		{"a free page that is told no more, the last one", relist([]int{23}, nil)},
		{"a free page that is told no more, the first one", relist([]int{2}, nil)},
		{"a node that is told to be free", relist(nil, []int{4})},
		{"the root that is told to be free", relist(nil, []int{9})},
		{"the first page of a value that is told to be free", relist(nil, []int{12})},
		{"the last page of a value that is told to be free", relist(nil, []int{20})},
		{"the list that is told to be free", relist(nil, []int{22})},
		{"a node that is told to be held", func(b book, m *meta.Meta) {
			b.list(api.G1, shelf.State{Free: r.S.Free, Held: runs(6, 10, 11, 13, 21)}, 22)
		}},
		{"a page beyond the last one that is told to be free", relist(nil, []int{24})},
		{"a page far beyond that is told to be free", relist(nil, []int{api.MaxPages - 1})},
		{"a page beyond that is told to be held", func(b book, m *meta.Meta) {
			b.list(api.G1, shelf.State{Free: r.S.Free, Held: runs(10, 11, 13, 21, 24)}, 22)
		}},
		{"two items that share a value", func(b book, m *meta.Meta) {
			b.node(api.G1, 4, leaf(first[0], first[1], far("c", 300, 12)))
		}},
		{"two items that share a value, in two leaves", func(b book, m *meta.Meta) {
			b.node(api.G3, 6, leaf(second[0], far("n", 300, 12), second[2]))
		}},
		{"a value that is lost", func(b book, m *meta.Meta) { b.node(api.G1, 4, leaf(first[0], first[2])) }},
		{"a value of another size", func(b book, m *meta.Meta) { b.node(api.G1, 4, leaf(first[0], far("b", 299, 12), first[2])) }},
		{"a value that is a node", func(b book, m *meta.Meta) { b.node(api.G1, 4, leaf(first[0], far("b", 300, 9), first[2])) }},
		{"a value that is a free page", func(b book, m *meta.Meta) { b.node(api.G1, 4, leaf(first[0], first[1], far("c", 40, 2))) }},
		{"the last value, that is a free page", func(b book, m *meta.Meta) {
			b.node(api.G3, 6, leaf(second[0], second[1], second[2], far("p", 40, 2)))
		}},
		{"a value that is the list", func(b book, m *meta.Meta) { b.node(api.G1, 4, leaf(first[0], first[1], far("c", 40, 22))) }},
		{"a value beyond the last page", func(b book, m *meta.Meta) {
			b.node(api.G1, 4, leaf(first[0], first[1], far("c", 40, 24))).value(api.G1, text(1, 40), 24)
		}},
		{"a value that ends beyond the last page", func(b book, m *meta.Meta) {
			b.node(api.G1, 4, leaf(first[0], first[1], far("c", 300, 2))).value(api.G1, text(1, 300), 2, 24).list(api.G1, free(r, []int{2}, nil), 22)
		}},
		{"a value that is torn", func(b book, m *meta.Meta) { b[17][9]++ }},
		{"a value of a generation that may not stand", func(b book, m *meta.Meta) { b.value(api.G2, text(3, 33), 3) }},
		{"a node of a generation that may not stand", func(b book, m *meta.Meta) { b.node(api.G2, 4, leaf(first...)) }},
		{"a list of a generation that may not stand", func(b book, m *meta.Meta) { b.list(api.G2, r.S, 22) }},
		{"a list that is torn", func(b book, m *meta.Meta) { b[22][2]++ }},
		{"a node that is torn", func(b book, m *meta.Meta) { b[6][77]++ }},
		{"a branch of one kid", func(b book, m *meta.Meta) { b.node(api.G3, 9, branch(4)) }},
		{"a branch of the same kid twice", func(b book, m *meta.Meta) { b.node(api.G3, 9, branch(4, "m", 4)) }},
		{"a branch of itself", func(b book, m *meta.Meta) { b.node(api.G3, 9, branch(4, "m", 9)) }},
		{"a branch of a page beyond", func(b book, m *meta.Meta) {
			b.node(api.G3, 9, branch(4, "m", 24)).node(api.G3, 24, leaf(second...))
		}},
		{"kids in the wrong order", func(b book, m *meta.Meta) { b.node(api.G3, 9, branch(6, "m", 4)) }},
		{"a key below its branch's", func(b book, m *meta.Meta) { b.node(api.G3, 9, branch(4, "mm", 6)) }},
		{"a leaf of no items", func(b book, m *meta.Meta) { b.node(api.G3, 6, leaf()) }},
	}
}

func numbers(from, to int) []int {
	var l []int
	for id := from; id < to; id++ {
		l = append(l, id)
	}
	return l
}

func TestP162Spoilt(t *testing.T) {
	for _, x := range spoilings() {
		w := sample()
		m := w.report.M
		x.do(w.b, &m)
		w.b.meta(m)
		for _, pages := range []int{26, 100} {
			wantCorrupt(t, x.what, w.b.pager(pages))
		}
		wantAsModel(t, x.what, w.b.image(26))
	}
}

// A list's own pages are pages of the file, too, and of nothing else: here it has three of them, the first one of which is 3.
func TestP162ListPages(t *testing.T) {
	for g, many := range map[int]int{api.G1: 130, api.G2: 70, api.G3: 25} {
		pages := 6 + many
		for _, x := range []struct {
			what   string
			second int
			want   api.Errno
		}{
			{"as it should be", 4, api.OK},
			{"one page beyond", pages, api.ErrTxnCorrupt},
			{"one page far beyond", api.MaxPages - 1, api.ErrTxnCorrupt},
			{"one page that is free", 20, api.ErrTxnCorrupt},
			{"one page that is held", 21, api.ErrTxnCorrupt},
		} {
			m, ids := stable(g, 6, pages), []int{3, x.second, 5}
			if g == api.G3 {
				ids = []int{5, x.second, 3}
			}
			var s shelf.State
			for id := 6; id < pages; id += 2 {
				s.Free = append(s.Free, runs(id)...)
				s.Held = append(s.Held, runs(id + 1)[:min(1, pages-id-1)]...)
			}
			if x.second != 4 {
				s.Free = slices.Concat(runs(4), s.Free)
			}
			m.List = shelf.First(g, ids)
			b := book{}.meta(m).node(g, 2, leaf()).list(g, s, ids...)
			want := check.Report{M: m, Tree: tree.Whole{Refs: []int{2}, Depth: 1}, List: ids, S: s}
			if x.want != api.OK {
				want = check.Report{}
			}
			wantLook(t, fmt.Sprint("generation ", g, ", ", x.what), b.pager(api.MaxPages), want, x.want)
		}
	}
}

// The same values may stand twice; a value's bytes may look like anything.
func TestP162Twins(t *testing.T) {
	n, _ := page.Encode(api.G1, leaf(near("a", "A")))
	v := n[:248]
	m := stable(api.G1, 6, 5)
	b := book{}.meta(m).node(api.G1, 2, leaf(far("a", 248, 4), far("b", 248, 3))).value(api.G1, v, 3).value(api.G1, v, 4)
	want := check.Report{M: m, Tree: tree.Whole{Items: []item.Item{far("a", 248, 4), far("b", 248, 3)}, Refs: []int{2}, Depth: 1}, Over: []int{4, 3}}
	wantLook(t, "twins", b.pager(5), want, api.OK)
	wantMap(t, "twins", b.pager(5), want, []check.Pair{{Key: []byte("a"), Value: v}, {Key: []byte("b"), Value: v}}, api.OK)
}

// A list without pages of its own: all pages are in use.
func TestP162NoList(t *testing.T) {
	for g := api.G1; g <= api.G3; g++ {
		m := stable(g, 6, 6)
		b := book{}.meta(m).node(g, 2, branch(4, "b", 3)).node(g, 4, leaf(far("a", 33, 5))).node(g, 3, leaf(near("b", ""))).value(g, text(1, 33), 5)
		want := check.Report{M: m, Tree: tree.Whole{Items: []item.Item{far("a", 33, 5), near("b", "")}, Refs: []int{2, 4, 3}, Depth: 2}, Over: []int{5}}
		wantLook(t, "no list", b.pager(6), want, api.OK)
	}
}
