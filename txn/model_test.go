package txn_test

import (
	"bytes"
	"maps"
	"slices"

	"regauge/api"
	"regauge/check"
	"regauge/disk"
	"regauge/edit"
	"regauge/item"
	"regauge/meta"
	"regauge/node"
	"regauge/pager"
	"regauge/run"
	"regauge/shelf"
	"regauge/tree"
)

// pages are a file's pages as plain sets: those that are free, and those that are held, and by whom. All others are in use.
type pages struct {
	n, limit int
	free     map[int]bool
	held     map[int]int
}

func (p *pages) copy() *pages {
	return &pages{p.n, p.limit, maps.Clone(p.free), maps.Clone(p.held)}
}

// allFree tells whether n pages from at on are free.
func (p *pages) allFree(at, n int) bool {
	for id := at; id < at+n; id++ {
		if !p.free[id] {
			return false
		}
	}
	return true
}

// take is the first n pages, one behind the other, that are free; else new ones, behind what is free at the end. It is false, if there is no room.
func (p *pages) take(n int) ([]int, bool) {
	for at := 2; at+n <= p.n && len(p.free) > 0; at++ {
		if p.allFree(at, n) {
			return p.use(at, n), true
		}
	}
	at := p.n
	for p.free[at-1] {
		at--
	}
	if at+n > p.limit {
		return nil, false
	}
	p.n = at + n
	return p.use(at, n), true
}

func (p *pages) use(at, n int) []int {
	var ids []int
	for id := at; id < at+n; id++ {
		delete(p.free, id)
		ids = append(ids, id)
	}
	return ids
}

func (p *pages) settle(txid, oldest int) {
	for id, t := range p.held {
		if t <= txid-2 && t <= oldest {
			p.free[id] = true
			delete(p.held, id)
		}
	}
}

// lists is what transaction txid tells of them: which are free, or held by others, and which it holds; rising.
func (p *pages) lists(txid int) (free, held []int) {
	free = slices.Collect(maps.Keys(p.free))
	for id, t := range p.held {
		if t == txid {
			held = append(held, id)
		} else {
			free = append(free, id)
		}
	}
	slices.Sort(free)
	slices.Sort(held)
	return free, held
}

func up(n, each int) int {
	return (n + each - 1) / each
}

// breaks is how many rows of pages, one behind the other, these are.
func breaks(l []int) int {
	n := 0
	for k, id := range l {
		if k == 0 || l[k-1] != id-1 {
			n++
		}
	}
	return n
}

// need is how many pages a list takes.
func need(g int, free, held []int) int {
	switch g {
	case api.G1:
		return up(len(free)+len(held), 61)
	case api.G2:
		return up(len(free)+len(held), 29)
	}
	level := up(breaks(free)+breaks(held), 18)
	all := level
	for level > 1 {
		level = up(level, 15)
		all += level
	}
	return all
}

// model is a store as the document tells it. The shape of its trees is told by drafts, over the disk that the store has written.
type model struct {
	d     *disk.Disk
	r     check.Report
	ahead check.Report // the state ahead of the newest one
	gen   map[int]int  // of pages in use
	has   map[string]string
	pages *pages
	open  *modelTxn
	snaps []*modelSnap // those that are open
}

type modelTxn struct {
	next    meta.Meta
	draft   *edit.Draft
	root    int
	changed bool
	has     map[string]string
	pages   *pages
}

type modelSnap struct {
	r   check.Report
	has map[string]string
}

func newModel(d *disk.Disk, r check.Report, has map[string]string) *model {
	p := &pages{r.M.Pages, d.Limit() / 4, map[int]bool{}, map[int]int{}}
	for _, id := range run.Pages(r.S.Free) {
		p.free[id] = true
	}
	for _, id := range run.Pages(r.S.Held) {
		p.held[id] = r.M.Txid
	}
	m := &model{d: d, r: r, ahead: r, gen: map[int]int{}, has: has, pages: p}
	for _, ref := range r.Tree.Refs {
		m.gen[ref] = genOf(d, ref)
	}
	for _, it := range r.Tree.Items {
		_, ids, g, _ := check.Value(pager.New(d), r.M, it)
		for _, id := range ids {
			m.gen[id] = g
		}
	}
	for _, id := range r.List {
		m.gen[id] = genOf(d, id)
	}
	return m
}

// genOf is the generation that a page's head tells.
func genOf(d *disk.Disk, id int) int {
	b, e := d.Read(id*4, 4)
	must(e, id)
	return int(b[1])
}

func (m *model) source() tree.Source {
	return check.Source(pager.New(m.d), m.r.M)
}

func (m *model) begin() api.Errno {
	if m.open != nil {
		return api.ErrTxnState
	}
	oldest := 1 << 31
	for _, n := range m.snaps {
		oldest = min(oldest, n.r.M.Txid)
	}
	p := m.pages.copy()
	p.settle(m.r.M.Txid+1, oldest)
	m.open = &modelTxn{next: m.r.M, draft: edit.New(m.source(), write(m.r.M)), root: m.r.M.Root, has: maps.Clone(m.has), pages: p}
	return api.OK
}

func write(m meta.Meta) int {
	if m.Phase == meta.Moving {
		return m.Target
	}
	return m.Gen
}

func (m *model) rollback() api.Errno {
	if m.open == nil {
		return api.ErrTxnState
	}
	m.open = nil
	return api.OK
}

// limits are how long keys and values may be.
func limits(g int) (key, value int) {
	return []int{0, 16, 20, 24}[g], []int{0, 400, 800, 1600}[g]
}

func (m *model) put(key, value string) api.Errno {
	if m.open == nil {
		return api.ErrTxnState
	}
	longKey, longValue := limits(write(m.open.next))
	switch {
	case len(key) < 1 || len(key) > longKey:
		return api.ErrItemKey
	case len(value) > longValue:
		return api.ErrItemValue
	}
	root, e := m.open.draft.Put(m.open.root, item.Of([]byte(key), []byte(value)))
	must(e)
	m.open.root, m.open.changed, m.open.has[key] = root, true, value
	return api.OK
}

func (m *model) drop(key string) (bool, api.Errno) {
	if m.open == nil {
		return false, api.ErrTxnState
	}
	if _, is := m.open.has[key]; !is {
		return false, api.OK
	}
	root, is, e := m.open.draft.Drop(m.open.root, []byte(key))
	must(e)
	m.open.root, m.open.changed = root, true
	delete(m.open.has, key)
	return is, api.OK
}

// newest is the keys and values that Get tells.
func (m *model) newest() map[string]string {
	if m.open != nil {
		return m.open.has
	}
	return m.has
}

func sorted(has map[string]string) []string {
	return slices.Sorted(maps.Keys(has))
}

func (m *model) touch(key string, behind bool) (string, bool, api.Errno) {
	if m.open == nil {
		return "", false, api.ErrTxnState
	}
	t := m.open
	for _, k := range sorted(t.has) {
		if k < key || behind && k == key {
			continue
		}
		last := ""
		root, e := t.draft.Change(t.root, []byte(k), func(leaf node.Node) (node.Node, api.Errno) {
			for _, it := range leaf.Items {
				last = string(it.Key)
				if it.Ref != 0 && m.gen[it.Ref] != write(t.next) {
					leaf = node.With(leaf, item.Of(it.Key, []byte(t.has[last])))
				}
			}
			return leaf, api.OK
		})
		must(e)
		t.root, t.changed = root, true
		return last, true, api.OK
	}
	return "", false, api.OK
}

// mayBe tells whether there may be a meta with such a generation, phase, target and cursor.
func mayBe(g, phase, target int, cursor []byte) bool {
	switch phase {
	case meta.Stable:
		return 1 <= g && g <= 3 && target == 0 && len(cursor) == 0
	case meta.Moving:
		if g < 1 || target <= g || target > 3 {
			return false
		}
		long, _ := limits(target)
		return len(cursor) <= long
	}
	return false
}

func (m *model) turn(g, phase, target int, cursor []byte) api.Errno {
	if m.open == nil {
		return api.ErrTxnState
	}
	if !mayBe(g, phase, target, cursor) {
		return api.ErrMetaForm
	}
	is := m.r.M
	own := g == is.Gen && phase == is.Phase && target == is.Target
	begins := is.Phase == meta.Stable && phase == meta.Moving && g == is.Gen
	ends := is.Phase == meta.Moving && phase == meta.Stable && g == is.Target && m.old() == 0
	if !own && !begins && !ends {
		return api.ErrPhase
	}
	next := m.open.next
	next.Gen, next.Phase, next.Target, next.Cursor = g, phase, target, slices.Clone(cursor)
	if write(next) != write(m.open.next) {
		if m.open.changed {
			return api.ErrTxnState
		}
		m.open.draft = edit.New(m.source(), write(next))
	}
	m.open.next = next
	return api.OK
}

// old is how many pages in use are of another generation than those that are written.
func (m *model) old() int {
	n := 0
	for _, g := range m.gen {
		if g != write(m.r.M) {
			n++
		}
	}
	return n
}

// used is all pages of a state that are in use.
func used(r check.Report) []int {
	return slices.Concat(r.Tree.Refs, r.Over, r.List)
}

// commit tells of the file that a commit is to leave, and its pages; ErrFull, if it has no room.
func (m *model) commit() (*model, api.Errno) {
	if m.open == nil {
		return nil, api.ErrTxnState
	}
	if m.r.M.Txid == 1<<31-1 {
		return nil, api.ErrMetaForm
	}
	t := m.open
	g := write(t.next)
	n := &model{d: m.d, r: check.Report{M: t.next, Slot: 1 - m.r.Slot}, ahead: m.r, gen: map[int]int{}, has: t.has, pages: t.pages.copy(), snaps: m.snaps}
	n.r.M.Txid++
	at, is := m.takeTree(n)
	if !is {
		return nil, api.ErrFull
	}
	n.r.M.Root = at[t.root]
	kept := map[int]bool{}
	for _, id := range used(n.r) {
		kept[id] = true
	}
	for _, id := range used(m.r) {
		if !kept[id] {
			n.pages.held[id] = n.r.M.Txid
		}
	}
	if !n.takeList(g) {
		return nil, api.ErrFull
	}
	free, held := n.pages.lists(n.r.M.Txid)
	n.r.S = shelf.State{Free: run.Of(free), Held: run.Of(held)}
	n.r.M.Pages = n.pages.n
	n.r.Old = n.old()
	return n, api.OK
}

// takeTree takes pages for what the draft has, and tells the page of each of its nodes.
func (m *model) takeTree(n *model) (map[int]int, bool) {
	t, g := m.open, write(n.r.M)
	whole, e := tree.All(t.draft.Node, t.root)
	must(e)
	n.r.Tree.Depth = whole.Depth
	at := map[int]int{}
	for _, ref := range whole.Refs {
		at[ref] = ref
		if ref < 0 {
			ids, is := n.pages.take(1)
			if !is {
				return nil, false
			}
			at[ref] = ids[0]
			n.gen[ids[0]] = g
		} else {
			n.gen[ref] = m.gen[ref]
		}
		n.r.Tree.Refs = append(n.r.Tree.Refs, at[ref])
		of, e := t.draft.Node(ref)
		must(e)
		for _, it := range of.Items {
			if !m.takeValue(n, it) {
				return nil, false
			}
		}
	}
	return at, true
}

// takeValue adds an item to the new file, and takes pages for its value, if it is far and has none.
func (m *model) takeValue(n *model, it item.Item) bool {
	g := write(n.r.M)
	switch {
	case it.Ref != 0:
		_, ids, of, e := check.Value(pager.New(m.d), m.r.M, it)
		must(e)
		n.addValue(ids, of)
	case len(it.Value) > 32:
		ids, is := n.pages.takeAll(g, len(it.Value))
		if !is {
			return false
		}
		n.addValue(ids, g)
		it = item.Item{Key: it.Key, Size: len(it.Value), Ref: ids[0]}
	}
	n.r.Tree.Items = append(n.r.Tree.Items, it)
	return true
}

func (m *model) addValue(ids []int, g int) {
	m.r.Over = append(m.r.Over, ids...)
	for _, id := range ids {
		m.gen[id] = g
	}
}

// takeAll takes pages for a value of so many bytes.
func (p *pages) takeAll(g, size int) ([]int, bool) {
	if g == api.G3 {
		return p.take(up(size+16, 256))
	}
	var ids []int
	for range up(size, []int{0, 248, 240}[g]) {
		id, is := p.take(1)
		if !is {
			return nil, false
		}
		ids = append(ids, id...)
	}
	return ids, true
}

// takeList takes pages for the list: free ones, as long as it needs as many, and then new ones.
func (m *model) takeList(g int) bool {
	txid := m.r.M.Txid
	var ids []int
	for len(m.pages.free) > 0 {
		less := m.pages.copy()
		id, _ := less.take(1)
		free, held := less.lists(txid)
		if need(g, free, held) < len(ids)+1 {
			break
		}
		m.pages, ids = less, append(ids, id...)
	}
	free, held := m.pages.lists(txid)
	for range need(g, free, held) - len(ids) {
		ids = append(ids, m.pages.n)
		m.pages.n++
	}
	for _, id := range ids {
		m.gen[id] = g
	}
	m.r.List = ids
	switch {
	case len(ids) > 0 && g == api.G3:
		m.r.M.List = ids[len(ids)-1]
	case len(ids) > 0:
		m.r.M.List = ids[0]
	default:
		m.r.M.List = 0
	}
	return m.pages.n <= m.pages.limit
}

// pairs is keys and values, rising.
func pairs(has map[string]string) []check.Pair {
	var l []check.Pair
	for _, key := range sorted(has) {
		l = append(l, check.Pair{Key: []byte(key), Value: []byte(has[key])})
	}
	return l
}

func samePairs(a, b []check.Pair) bool {
	return slices.EqualFunc(a, b, func(a, b check.Pair) bool { return bytes.Equal(a.Key, b.Key) && bytes.Equal(a.Value, b.Value) })
}

func sameReport(a, b check.Report) bool {
	return meta.Same(a.M, b.M) && a.Slot == b.Slot && a.Tree.Depth == b.Tree.Depth && slices.Equal(a.Tree.Refs, b.Tree.Refs) &&
		slices.EqualFunc(a.Tree.Items, b.Tree.Items, item.Same) && slices.Equal(a.Over, b.Over) && slices.Equal(a.List, b.List) &&
		shelf.Same(a.S, b.S) && a.Old == b.Old
}
