package check_test

import (
	"bytes"
	"fmt"
	"math/rand/v2"
	"slices"
	"testing"

	"regauge/api"
	"regauge/check"
	"regauge/crc"
	"regauge/disk"
	"regauge/item"
	"regauge/meta"
	"regauge/over"
	"regauge/page"
	"regauge/pager"
	"regauge/run"
	"regauge/shelf"
)

// The model has all bytes of a disk, and notes who has each page, as soon as somebody has it. What is wrong ends it by a panic of that type.
type model struct {
	image []byte
	who   map[int]string
	r     check.Report
	seps  []sep
}

type wrong api.Errno

// sep is a key as a tree has it, from left to right: of an item, or of a kid under which what is behind it stands.
type sep struct {
	key []byte
	kid bool
}

// modelLook is a report of an image, which has whole sectors.
func modelLook(image []byte) (r check.Report, e api.Errno) {
	defer func() {
		if why, is := recover().(wrong); is {
			r, e = check.Report{}, api.Errno(why)
		}
	}()
	m := model{image: image, who: map[int]string{}}
	m.head()
	m.ask(len(m.image)/api.Page >= m.r.M.Pages)
	m.other()
	m.tree()
	m.values()
	m.list()
	for id := 2; id < m.r.M.Pages; id++ {
		m.ask(m.who[id] != "")
	}
	return m.r, api.OK
}

// ask ends it, if something is not as it should be.
func (m *model) ask(is bool) {
	if !is {
		panic(wrong(api.ErrTxnCorrupt))
	}
}

// page is a page's bytes; nothing, if not all of it is there.
func (m *model) page(id int) []byte {
	if id < 0 || id >= len(m.image)/api.Page {
		return nil
	}
	return m.image[id*api.Page:][:api.Page]
}

// own notes who has pages.
func (m *model) own(who string, ids ...int) {
	for _, id := range ids {
		m.ask(id >= 2 && id < m.r.M.Pages && m.who[id] == "")
		m.who[id] = who
	}
}

// gen holds a generation against those that may stand, and counts pages that are old.
func (m *model) gen(g, pages int) {
	newest := m.r.M.Gen
	if m.r.M.Phase == meta.Moving {
		newest = m.r.M.Target
	}
	m.ask(g == m.r.M.Gen || g == newest)
	if g != newest {
		m.r.Old += pages
	}
}

func (m *model) head() {
	first, a := meta.Decode(m.page(0))
	second, b := meta.Decode(m.page(1))
	first0, second1 := a == api.OK && first.Txid%2 == 0, b == api.OK && second.Txid%2 == 1
	switch {
	case first0 && (!second1 || first.Txid > second.Txid):
		m.r.M, m.r.Slot = first, 0
	case second1:
		m.r.M, m.r.Slot = second, 1
	case a == api.ErrMetaGen || b == api.ErrMetaGen:
		panic(wrong(api.ErrTxnGen))
	default:
		m.ask(false)
	}
}

func (m *model) other() {
	b := m.page(1 - m.r.Slot)
	_, e := meta.Decode(b)
	m.ask(e == api.OK || string(b[:4]) != "RGAU" || string(b[248:252]) != "UAGR")
}

func (m *model) tree() {
	m.walk(m.r.M.Root, 1)
	for k := 1; k < len(m.seps); k++ {
		c := bytes.Compare(m.seps[k-1].key, m.seps[k].key)
		m.ask(c < 0 || c == 0 && m.seps[k-1].kid && !m.seps[k].kid)
	}
}

func (m *model) walk(ref, depth int) {
	m.ask(depth <= api.MaxDepth)
	m.own("tree", ref)
	g, n, e := page.Decode(m.page(ref))
	m.ask(e == api.OK)
	m.gen(g, 1)
	m.r.Tree.Refs = append(m.r.Tree.Refs, ref)
	m.r.Tree.Items = append(m.r.Tree.Items, n.Items...)
	for _, it := range n.Items {
		m.seps = append(m.seps, sep{it.Key, false})
	}
	for k, kid := range n.Kids {
		if k > 0 {
			m.seps = append(m.seps, sep{kid.Key, true})
		}
		m.walk(kid.Ref, depth+1)
	}
	if !n.Leaf {
		m.ask(len(n.Kids) > 1)
		return
	}
	m.ask(len(n.Items) > 0 || depth == 1)
	if m.r.Tree.Depth == 0 {
		m.r.Tree.Depth = depth
	}
	m.ask(depth == m.r.Tree.Depth)
}

func (m *model) values() {
	for _, it := range m.r.Tree.Items {
		if it.Ref == 0 {
			continue
		}
		g, _, ids, e := over.Decode(func(id, many int) ([]byte, api.Errno) {
			var b []byte
			for k := range many {
				b = append(b, m.page(id+k)...)
			}
			return b, api.OK
		}, it.Ref, it.Size)
		m.ask(e == api.OK)
		m.gen(g, len(ids))
		m.own("value", ids...)
		m.r.Over = append(m.r.Over, ids...)
	}
}

func (m *model) list() {
	if m.r.M.List == 0 {
		return
	}
	g, s, ids, e := shelf.Decode(func(id int) ([]byte, api.Errno) { return m.page(id), api.OK }, m.r.M.List)
	m.ask(e == api.OK)
	m.gen(g, len(ids))
	m.own("list", ids...)
	m.own("free", run.Pages(s.Free)...)
	m.own("held", run.Pages(s.Held)...)
	m.r.List, m.r.S = ids, s
}

// wantAsModel holds Look, and Map of what it tells, against the model. It tells Look's error.
func wantAsModel(t *testing.T, what string, image []byte) api.Errno {
	t.Helper()
	p := pager.New(disk.Load(image, api.MaxDisk))
	want, wantE := modelLook(p.Disk().Image())
	wantLook(t, what, p, want, wantE)
	var pairs []check.Pair
	for _, it := range want.Tree.Items {
		value, _, _, e := check.Value(p, want.M, it)
		if e != api.OK || len(value) != item.Long(it) {
			t.Fatalf("%s: Value of an item of a report: %d bytes, error %d", what, len(value), e)
		}
		pairs = append(pairs, check.Pair{Key: it.Key, Value: value})
	}
	wantMap(t, what, p, want, pairs, api.OK)
	return wantE
}

// mend seals a page again, wherever its sum stands; so that what was changed is what is looked at.
func mend(image []byte, id int) {
	b := image[id*api.Page:][:api.Page]
	switch {
	case bytes.HasPrefix(b, []byte("RGAU")):
		copy(b, crc.Seal(b, 252))
	case b[1] != api.G1:
		copy(b, crc.Seal(b, 4))
	}
}

// alter changes an image in one of many ways.
func alter(r *rand.Rand, image []byte, m meta.Meta) []byte {
	pages := len(image) / api.Page
	id, other := r.IntN(pages), r.IntN(pages)
	switch r.IntN(10) {
	case 0, 1: // any bit
		image[r.IntN(len(image))] ^= 1 << r.IntN(8)
	case 2, 3: // a byte that is near a head, mended
		image[id*api.Page+r.IntN(40)] = byte(r.IntN(30))
		mend(image, id)
	case 4: // any byte, mended
		image[id*api.Page+r.IntN(api.Page)] = byte(r.Uint32())
		mend(image, id)
	case 5: // one page instead of another one
		copy(image[id*api.Page:][:api.Page], image[other*api.Page:])
	case 6: // the end cut off, or more at the end
		return slices.Concat(image, make([]byte, 4*api.Sector))[:len(image)+api.Sector*(r.IntN(9)-4)]
	case 7: // a generation of a meta
		image[id%2*api.Page+4+2*r.IntN(2)] = byte(r.IntN(6))
		mend(image, 0)
		mend(image, 1)
	case 8: // a sector of zeros
		clear(image[r.IntN(len(image)/api.Sector)*api.Sector:][:api.Sector])
	case 9: // another meta
		was := m
		switch r.IntN(7) {
		case 0:
			m.Root = 2 + r.IntN(m.Pages-2)
		case 1:
			m.List = r.IntN(m.Pages)
		case 2:
			m.Pages += r.IntN(5) - 2
		case 3:
			m.Phase, m.Target, m.Cursor = meta.Moving, api.G3, nil
		case 4:
			m.Phase, m.Target, m.Cursor = meta.Stable, 0, nil
		case 5:
			m.Gen = 1 + r.IntN(3)
		case 6:
			m.Txid += 2 * (r.IntN(4) - 2)
		}
		if !meta.Right(m) {
			m = was
		}
		copy(image[meta.Slot(m.Txid)*api.Page:], encoded(m))
	}
	return image
}

// Files by chance tell what they were made of.
func TestP162AsItWasMade(t *testing.T) {
	depth, old, list := map[int]int{}, map[bool]int{}, map[int]int{}
	for seed := range 600 {
		w := made(seed, []int{0, 1, 2, 3, 8, 20, 60, 150}[seed%8])
		what := fmt.Sprint("file ", seed)
		wantLook(t, what, w.pager(), w.report, api.OK)
		wantMap(t, what, w.pager(), w.report, w.pairs, api.OK)
		wantAsModel(t, what, w.b.image(w.report.M.Pages))
		depth[w.report.Tree.Depth]++
		old[w.report.Old > 0]++
		list[len(w.report.List)]++
	}
	if depth[1] < 10 || depth[4] < 10 || old[true] < 100 || old[false] < 100 || list[0] < 10 || list[1] < 10 || list[3] < 10 {
		t.Fatal("the files are too much alike: ", depth, old, list)
	}
}

// What was altered tells what the model reads: some of it is as it should be.
func TestP162Altered(t *testing.T) {
	r := rand.New(rand.NewPCG(16, 2))
	errors := map[api.Errno]int{}
	for seed := range 400 {
		w := made(seed, seed%20)
		image := w.b.image(w.report.M.Pages)
		for k := range 60 {
			b := alter(r, slices.Clone(image), w.report.M)
			for range k % 3 {
				if len(b)%api.Page == 0 {
					b = alter(r, b, w.report.M)
				}
			}
			errors[wantAsModel(t, fmt.Sprint("file ", seed, ", altered ", k), b)]++
		}
	}
	if len(errors) != 3 || errors[api.OK] < 1000 || errors[api.ErrTxnCorrupt] < 1000 || errors[api.ErrTxnGen] < 10 {
		t.Fatal("what was altered is too much alike: ", errors)
	}
}

// Each byte of a small file of each kind, with a bit turned.
func TestP162EachByte(t *testing.T) {
	files := []whole{sample(), created(api.G1), created(api.G2), created(api.G3)}
	for k, w := range files {
		image := w.b.image(w.report.M.Pages)
		for at := range image {
			b := slices.Clone(image)
			b[at] ^= 1 << (at % 7)
			wantAsModel(t, fmt.Sprint("file ", k, ", byte ", at), b)
		}
	}
}

// Any bytes.
func TestP162AnyBytes(t *testing.T) {
	r := rand.New(rand.NewPCG(16, 3))
	for k := range 3000 {
		image := make([]byte, r.IntN(5*api.Page))
		for at := range image {
			image[at] = byte(r.Uint32())
		}
		wantAsModel(t, fmt.Sprint("bytes ", k), image)
	}
}
