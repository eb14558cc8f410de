package txn

import (
	"cmp"
	"slices"

	"regauge/api"
	"regauge/check"
	"regauge/item"
	"regauge/meta"
	"regauge/over"
	"regauge/page"
	"regauge/pager"
	"regauge/pool"
	"regauge/run"
	"regauge/shelf"
)

// layout is where a transaction's state is to stand. Nothing of the store is changed by it: so it may be given up at any time.
type layout struct {
	of     *Store
	g      int // in which all is written
	next   meta.Meta
	pool   *pool.Pool
	kept   map[int]int // the first pages of values that new leaves have from the state ahead
	list   []int
	writes []pager.Write
}

// newLayout has no pages yet.
func newLayout(s *Store) *layout {
	next := s.open.next
	next.Txid++
	return &layout{of: s, g: meta.Write(next), next: next, pool: s.pool.Copy(), kept: map[int]int{}}
}

// lay gives all that is new pages. (What is given up is held: none of it is taken, though it is given up only when it is known which values stay.)
func (l *layout) lay() api.Errno {
	root, e := l.layNode(l.of.open.root)
	if e != api.OK {
		return e
	}
	if e := l.giveUp(); e != api.OK {
		return e
	}
	if e := l.layList(); e != api.OK {
		return e
	}
	l.next.Root, l.next.Pages, l.next.List = root, l.pool.Pages(), shelf.First(l.g, l.list)
	slices.SortFunc(l.writes, func(a, b pager.Write) int { return cmp.Compare(a.Id, b.Id) })
	return api.OK
}

// write has pages written.
func (l *layout) write(ids []int, pages [][]byte) {
	for k, id := range ids {
		l.writes = append(l.writes, pager.Write{Id: id, B: pages[k]})
	}
}

// layNode gives a node a page, and, behind it, all that is new under it. It tells the node's page: what is not the draft's own has one.
func (l *layout) layNode(ref int) (int, api.Errno) {
	if ref >= 0 {
		return ref, api.OK
	}
	id, e := l.pool.Take(1)
	if e != api.OK {
		return 0, e
	}
	n, e := l.of.open.draft.Node(ref)
	for k := 0; e == api.OK && k < len(n.Kids); k++ {
		n.Kids[k].Ref, e = l.layNode(n.Kids[k].Ref)
	}
	for k := 0; e == api.OK && k < len(n.Items); k++ {
		n.Items[k], e = l.layValue(n.Items[k])
	}
	if e != api.OK {
		return 0, e
	}
	b, e := page.Encode(l.g, n)
	if e != api.OK {
		return 0, e
	}
	l.write([]int{id}, [][]byte{b})
	return id, api.OK
}

// layValue gives an item's value pages, if it is to have some, and has none.
func (l *layout) layValue(it item.Item) (item.Item, api.Errno) {
	switch {
	case it.Ref != 0:
		l.kept[it.Ref]++
		return it, api.OK
	case !item.Far(it):
		return it, api.OK
	}
	ids, e := l.take(over.Many(l.g, len(it.Value)))
	if e != api.OK {
		return item.Item{}, e
	}
	pages, e := over.Encode(l.g, it.Value, ids)
	if e != api.OK {
		return item.Item{}, e
	}
	l.write(ids, pages)
	return item.Item{Key: it.Key, Size: len(it.Value), Ref: ids[0]}, api.OK
}

// take takes so many pages for a value: one by one, if each may stand anywhere, else at once.
func (l *layout) take(many int) ([]int, api.Errno) {
	each := many
	if over.Single(l.g) {
		each = 1
	}
	var ids []int
	for len(ids) < many {
		at, e := l.pool.Take(each)
		if e != api.OK {
			return nil, e
		}
		ids = append(ids, run.Pages([]run.Run{{At: at, Len: each}})...)
	}
	return ids, api.OK
}

// giveUp has the transaction hold what the state ahead has in use, and the next one has not: nodes, the values that stood in their leaves and stay in none, and the list.
func (l *layout) giveUp() api.Errno {
	nodes := l.of.open.draft.Gone()
	pages := slices.Concat(l.of.list, nodes)
	for _, ref := range nodes {
		ids, e := l.dropped(ref)
		if e != api.OK {
			return e
		}
		pages = append(pages, ids...)
	}
	for _, x := range run.Of(pages) {
		if e := l.pool.Give(l.next.Txid, x); e != api.OK {
			return e
		}
	}
	return api.OK
}

// dropped is the pages of a node's values that no new leaf has.
func (l *layout) dropped(ref int) ([]int, api.Errno) {
	n, e := l.of.open.draft.Node(ref)
	var pages []int
	for k := 0; e == api.OK && k < len(n.Items); k++ {
		if l.kept[n.Items[k].Ref] > 0 {
			continue
		}
		var ids []int
		_, ids, _, e = check.Value(l.of.p, l.of.m, n.Items[k])
		pages = append(pages, ids...)
	}
	return pages, e
}

// layList gives the list pages. What is taken leaves less to tell: so free pages are taken, as long as there are any, only if the list needs each of them still.
func (l *layout) layList() api.Errno {
	for len(l.pool.Free()) > 0 {
		less := l.pool.Copy()
		id, _ := less.Take(1)
		if l.need(less) <= len(l.list) {
			break
		}
		l.pool, l.list = less, append(l.list, id)
	}
	if more := l.need(l.pool) - len(l.list); more > 0 {
		at, e := l.pool.Grow(more)
		if e != api.OK {
			return e
		}
		l.list = append(l.list, run.Pages([]run.Run{{At: at, Len: more}})...)
	}
	pages, e := shelf.Encode(l.g, l.pool.State(l.next.Txid), l.list)
	if e != api.OK {
		return e
	}
	l.write(l.list, pages)
	return api.OK
}

// need is how many pages it takes to tell what a pool leaves.
func (l *layout) need(p *pool.Pool) int {
	return shelf.Need(l.g, p.State(l.next.Txid))
}
