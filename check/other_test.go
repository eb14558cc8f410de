package check_test

import (
	"fmt"
	"slices"
	"testing"

	"regauge/api"
	"regauge/check"
	"regauge/item"
	"regauge/meta"
	"regauge/pager"
	"regauge/run"
	"regauge/shelf"
	"regauge/tree"
)

// The other meta is clean, if it is one, of whatever state, or has not both marks.
func TestP162OtherMeta(t *testing.T) {
	w := sample()
	ahead := w.report.M
	ahead.Txid--
	marked := func(from, to string) []byte {
		b := unsealed(ahead)
		copy(b, from)
		copy(b[248:], to)
		return b
	}
	for _, x := range []struct {
		what  string
		other []byte
		want  api.Errno
	}{
		{"zeros", nil, api.OK},
		{"of another generation", encoded(stable(api.G2, 2, 3)), api.OK},
		{"of more pages than there are", encoded(stable(api.G2, 2, 9999)), api.OK},
		{"of the same slot, and older", encoded(stable(api.G1, 5, 3)), api.OK},
		{"of the same slot, and newer", encoded(stable(api.G1, 9, 3)), api.OK},
		{"of a tree that is none", encoded(meta.Meta{Gen: 1, Txid: 6, Root: 22, Pages: 24, List: 9}), api.OK},
		{"no first mark", marked("RGAV", "UAGR"), api.OK},
		{"no first mark at all", marked("\x00\x00\x00\x00", "UAGR"), api.OK},
		{"no second mark", marked("RGAU", "UAGS"), api.OK},
		{"no second mark at all", marked("RGAU", "\x00\x00\x00\x00"), api.OK},
		{"none of both", marked("rgau", "uagr"), api.OK},
		{"both marks, and no sum", marked("RGAU", "UAGR"), api.ErrTxnCorrupt},
		{"both marks alone", append(append([]byte("RGAU"), make([]byte, 244)...), "UAGR\x00\x00\x00\x00"...), api.ErrTxnCorrupt},
		{"of no known generation", unknown(ahead), api.ErrTxnCorrupt},
		{"not right", unformed(ahead), api.ErrTxnCorrupt},
	} {
		b := w.b.copy()
		b[0] = x.other
		want := w.report
		if x.want != api.OK {
			want = check.Report{}
		}
		wantLook(t, x.what, b.pager(24), want, x.want)
		wantHead(t, x.what, b.pager(24), w.report.M, 1, api.OK)
		wantStaysNone(t, x.what, b, x.want)
	}
}

// wantStaysNone writes zeros over any sectors of the other meta: of one that is clean no meta is made that was none.
func wantStaysNone(t *testing.T, what string, b book, e api.Errno) {
	t.Helper()
	image := b.image(24)[:api.Page]
	was, wasE := meta.Decode(image)
	for kept := range 16 {
		torn := slices.Clone(image)
		for k := range 4 {
			if kept>>k&1 == 0 {
				clear(torn[k*api.Sector:][:api.Sector])
			}
		}
		if m, mE := meta.Decode(torn); e == api.OK && mE == api.OK && (wasE != api.OK || !meta.Same(m, was)) {
			t.Fatal(what, ": it is a meta that it was not")
		}
	}
}

// The same, where the newest meta stands in the other slot.
func TestP162OtherMetaInSlot1(t *testing.T) {
	w := created(api.G2)
	for what, other := range map[string][]byte{"torn": unsealed(stable(api.G2, 1, 3)), "not right": unformed(stable(api.G2, 1, 3)), "newer, and torn": unsealed(stable(api.G2, 3, 3))} {
		b := w.b.copy()
		b[1] = other
		wantCorrupt(t, what, b.pager(3))
	}
	b := w.b.copy()
	b[1] = nil
	wantLook(t, "zeros", b.pager(3), w.report, api.OK)
}

// A disk that went down at any op of a commit, and whatever survived, has a file that is as it should be.
func TestP162BehindCrash(t *testing.T) {
	m := stable(api.G1, 2, 7)
	m.List = 3
	s := shelf.State{Free: runs(4, 5), Held: runs(6)}
	b := book{}.meta(m).node(api.G1, 2, leaf(near("a", "A"))).list(api.G1, s, 3)
	before := check.Report{M: m, Tree: tree.Whole{Items: []item.Item{near("a", "A")}, Refs: []int{2}, Depth: 1}, List: []int{3}, S: s}
	wantLook(t, "ahead", b.pager(7), before, api.OK)
	next := moving(api.G1, api.G3, 3, 9)
	next.Root, next.List = 4, 5
	items, held := []item.Item{near("a", "B"), far("b", 300, 7)}, shelf.State{Free: runs(6), Held: runs(2, 3)}
	after := check.Report{M: next, Slot: 1, Tree: tree.Whole{Items: items, Refs: []int{4}, Depth: 1}, Over: []int{7, 8}, List: []int{5}, S: held}
	c := book{}.node(api.G3, 4, leaf(items...)).list(api.G3, held, 5).value(api.G3, text(1, 300), 7, 8)
	var l []pager.Write
	for _, id := range []int{4, 5, 7, 8} {
		l = append(l, pager.Write{Id: id, B: c[id]})
	}
	told := map[int]int{}
	for op := range 9 {
		for keep := range 256 {
			d := b.pager(7).Disk()
			d.Arm(op)
			e := pager.New(d).Commit(l, next)
			var kept []bool
			for k := range 8 {
				kept = append(kept, keep>>k&1 == 1)
			}
			d.Crash(kept)
			r, lookE := check.Look(pager.New(d))
			if lookE != api.OK || !sameReport(r, before) && !sameReport(r, after) || e == api.OK && !sameReport(r, after) {
				t.Fatalf("down at op %d, %08b kept: %v, error %d", op, keep, r, lookE)
			}
			told[r.M.Txid]++
		}
	}
	if told[2] < 100 || told[3] < 100 {
		t.Fatal("both states are to come up: ", told)
	}
}

// stairs is a tree of so many floors, each of whose branches has two kids: nodes are numbered from the root on.
func stairs(floors int) (book, meta.Meta, check.Report) {
	nodes := 1<<floors - 1
	m := stable(api.G1, 2, 2+nodes)
	r := check.Report{M: m, Tree: tree.Whole{Depth: floors}}
	b := book{}.meta(m)
	key := func(n int) string { return string([]byte{byte(n >> 8), byte(n)}) }
	var visit func(n, first, floor int)
	visit = func(n, first, floor int) {
		r.Tree.Refs = append(r.Tree.Refs, n+1)
		if floor == floors {
			it := near(key(first), "")
			r.Tree.Items = append(r.Tree.Items, it)
			b.node(api.G1, n+1, leaf(it))
			return
		}
		second := first + 1<<(floors-floor-1)
		b.node(api.G1, n+1, branch(2*n+1, key(second), 2*n+2))
		visit(2*n, first, floor+1)
		visit(2*n+1, second, floor+1)
	}
	visit(1, 0, 1)
	return b, m, r
}

func TestP162Depth(t *testing.T) {
	for floors := 1; floors <= api.MaxDepth+1; floors++ {
		b, m, r := stairs(floors)
		want, e := r, api.OK
		if floors > api.MaxDepth {
			want, e = check.Report{}, api.ErrTxnCorrupt
		}
		wantLook(t, fmt.Sprint(floors, " floors"), b.pager(m.Pages), want, e)
	}
}

// greatest is a state of all pages but the metas', as many others as stand ahead of it, its own list's, and the last page; and the list's pages.
func greatest(g, others int) (shelf.State, []int) {
	for n := 1; ; n++ {
		at, mid := 2+others+n, 9000
		s := shelf.State{Free: []run.Run{{At: at, Len: mid - at}}, Held: []run.Run{{At: mid, Len: api.MaxPages - 1 - mid}}}
		switch need := shelf.Need(g, s); {
		case need == n:
			return s, numbers(2+others, at)
		case need < n:
			return shelf.State{}, nil
		}
	}
}

// The greatest file: its last page is the root, and the list tells of nearly all others.
func TestP162GreatestFile(t *testing.T) {
	for g := api.G1; g <= api.G3; g++ {
		others := 0
		s, ids := greatest(g, others)
		for ; ids == nil; s, ids = greatest(g, others) {
			others++
		}
		m := stable(g, 8, api.MaxPages)
		m.Root, m.List = api.MaxPages-1, shelf.First(g, ids)
		b := book{}.meta(m).list(g, s, ids...)
		want := check.Report{M: m, List: ids, S: s, Tree: tree.Whole{Refs: []int{m.Root}, Depth: 1}}
		for k := range others {
			want.Tree.Items, want.Over = append(want.Tree.Items, far(string(rune('a'+k)), 40, 2+k)), append(want.Over, 2+k)
			b.value(g, text(k, 40), 2+k)
		}
		b.node(g, m.Root, leaf(want.Tree.Items...))
		wantLook(t, fmt.Sprint("generation ", g), b.pager(api.MaxPages), want, api.OK)
		wantCorrupt(t, fmt.Sprint("generation ", g, ", one page less"), b.pager(api.MaxPages-1))
	}
}

// What is told is the caller's own, and what was handed in stays as it was.
func TestP162Own(t *testing.T) {
	w := sample()
	p := w.pager()
	r, _ := check.Look(p)
	spoil(r)
	wantLook(t, "written into", p, w.report, api.OK)
	m, _, _ := check.Head(p)
	m.Cursor[0]++
	wantHead(t, "written into", p, w.report.M, 1, api.OK)
	r, _ = check.Look(p)
	kept, _ := check.Look(p)
	l, e := check.Map(p, r)
	if e != api.OK || !sameReport(r, kept) {
		t.Fatal("Map has changed the report, or told error ", e)
	}
	for k := range l {
		flip(l[k].Key)
		flip(l[k].Value)
	}
	if !sameReport(r, kept) {
		t.Fatal("what Map told shares with the report")
	}
	wantMap(t, "written into", p, r, w.pairs, api.OK)
}

func flip(b []byte) {
	for k := range b {
		b[k] ^= 0xff
	}
}

// spoil writes into all that a report has.
func spoil(r check.Report) {
	flip(r.M.Cursor)
	for k := range r.Tree.Items {
		flip(r.Tree.Items[k].Key)
		flip(r.Tree.Items[k].Value)
		r.Tree.Items[k] = item.Item{}
	}
	clear(r.Tree.Refs)
	clear(r.Over)
	clear(r.List)
	clear(r.S.Free)
	clear(r.S.Held)
}

// No two lists of a report are one: to grow one changes no other.
func TestP162Apart(t *testing.T) {
	for seed := range 40 {
		w := made(seed, 12)
		r, e := check.Look(w.pager())
		if e != api.OK {
			t.Fatal(e)
		}
		for _, l := range [][]int{r.Tree.Refs, r.Over, r.List} {
			_ = append(l, -7)
		}
		_, _ = append(r.S.Free, run.Run{At: -7}), append(r.S.Held, run.Run{At: -7})
		for _, it := range r.Tree.Items {
			_, _ = append(it.Key, 7), append(it.Value, 7)
		}
		if !sameReport(r, w.report) {
			t.Fatal("a list has grown into another one: ", r)
		}
	}
}

// Map goes on as long as each value is told: a file that has changed since tells Value's error, or what stands there now.
func TestP163Changed(t *testing.T) {
	w := sample()
	for id := range 24 {
		b := w.b.copy()
		b[id] = nil
		p := b.pager(24)
		if slices.Contains(w.report.Over, id) {
			wantMap(t, fmt.Sprint("without page ", id), p, w.report, nil, api.ErrTxnCorrupt)
		} else {
			wantMap(t, fmt.Sprint("without page ", id), p, w.report, w.pairs, api.OK)
		}
	}
	p := w.pager()
	r, _ := check.Look(p)
	wantMap(t, "down", down(p), r, nil, api.ErrDown)
	p.Disk().Write(3*4, book{}.value(api.G1, text(9, 33), 3)[3])
	pairs := slices.Clone(w.pairs)
	pairs[5].Value = text(9, 33)
	wantMap(t, "another value", p, r, pairs, api.OK)
}

// Any report ends with an answer, whatever it tells: of what Look did not tell nothing else is promised.
func TestP163AnyReport(t *testing.T) {
	w := sample()
	for _, p := range []*pager.Pager{w.pager(), w.b.pager(2), book{}.pager(0), down(w.pager()), nil} {
		for _, m := range []meta.Meta{{}, w.report.M, {Gen: -1, Phase: 9, Target: 99, Pages: 1 << 62}} {
			for _, id := range append([]int{3, 12, 14}, extremes...) {
				for _, size := range append([]int{33, 300, 1600}, extremes...) {
					l, e := check.Map(p, check.Report{M: m, Tree: tree.Whole{Items: []item.Item{{Ref: id, Size: size, Value: []byte("x")}}}})
					if (e == api.OK) != (len(l) == 1) {
						t.Fatal("error ", e, ", and ", l)
					}
				}
			}
		}
	}
	wantMap(t, "an empty report", w.pager(), check.Report{}, nil, api.OK)
}

// turned is the state in which just that page is not as it was: told no more, or told to be free.
func turned(s shelf.State, id int) shelf.State {
	x := run.Run{At: id, Len: 1}
	if held, was := run.Drop(s.Held, x); was {
		return shelf.State{Free: s.Free, Held: held}
	}
	if rest, was := run.Drop(s.Free, x); was {
		return shelf.State{Free: rest, Held: s.Held}
	}
	more, _ := run.Add(s.Free, x)
	return shelf.State{Free: more, Held: s.Held}
}

// No page is lost: whichever single page a list does not tell, or tells too, or tells beyond all, there is no report.
func TestP164EachPage(t *testing.T) {
	cases := 0
	for seed := range 60 {
		w := made(seed, 1+seed%9)
		r := w.report
		g := meta.Write(r.M)
		for id := 2; id <= r.M.Pages; id++ {
			s := turned(r.S, id)
			if len(r.List) == 0 || shelf.Need(g, s) != len(r.List) {
				continue
			}
			cases++
			m := r.M
			m.List = shelf.First(g, r.List)
			b := w.b.copy().meta(m).list(g, s, r.List...)
			wantCorrupt(t, fmt.Sprint("file ", seed, ", page ", id), b.pager(m.Pages+3))
		}
	}
	if cases < 500 {
		t.Fatal("too few: ", cases)
	}
}
