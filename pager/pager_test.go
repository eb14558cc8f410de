package pager_test

import (
	"bytes"
	"fmt"
	"math"
	"math/rand/v2"
	"slices"
	"testing"

	"regauge/api"
	"regauge/disk"
	"regauge/meta"
	"regauge/pager"
)

// pages is the bytes of so many pages, no two sectors of which are alike.
func pages(seed, many int) []byte {
	r := rand.New(rand.NewPCG(uint64(seed), 12))
	b := make([]byte, many*api.Page)
	for k := range b {
		b[k] = byte(r.Uint32())
	}
	return b
}

func write(id, seed, many int) pager.Write {
	return pager.Write{Id: id, B: pages(seed, many)}
}

func stable(g, txid, pages int) meta.Meta {
	return meta.Meta{Gen: g, Txid: txid, Root: 2, Pages: pages}
}

func moving(g, target, txid, pages int, cursor string) meta.Meta {
	return meta.Meta{Gen: g, Phase: meta.Moving, Target: target, Txid: txid, Root: 2, Pages: pages, List: pages - 1, Cursor: []byte(cursor)}
}

func encoded(m meta.Meta) []byte {
	b, e := meta.Encode(m)
	if e != api.OK {
		panic("the test's meta is not right")
	}
	return b
}

// loaded is a pager of a new disk that has these bytes, all durable.
func loaded(image []byte, limit int) (*disk.Disk, *pager.Pager) {
	d := disk.Load(image, limit)
	return d, pager.New(d)
}

func wantBytes(t *testing.T, what string, b []byte, e api.Errno, want []byte, wantE api.Errno) {
	t.Helper()
	if e != wantE || !bytes.Equal(b, want) {
		t.Fatalf("%s: %d bytes, error %d; want %d bytes, error %d", what, len(b), e, len(want), wantE)
	}
}

func wantNewest(t *testing.T, what string, p *pager.Pager, want meta.Meta, wantAt int, wantE api.Errno) {
	t.Helper()
	if m, at, e := p.Newest(); e != wantE || at != wantAt || !meta.Same(m, want) {
		t.Fatalf("%s: Newest is %v, %d, error %d; want %v, %d, error %d", what, m, at, e, want, wantAt, wantE)
	}
}

// wantAsItWas runs a call that is to be refused, and holds all that the disk tells against what it told ahead of it.
func wantAsItWas(t *testing.T, what string, d *disk.Disk, want api.Errno, call func() api.Errno) {
	t.Helper()
	size, ops, pending, down, image := d.Size(), d.Ops(), d.Pending(), d.Down(), d.Image()
	if e := call(); e != want {
		t.Fatalf("%s: error %d, want %d", what, e, want)
	}
	if d.Size() != size || d.Ops() != ops || d.Pending() != pending || d.Down() != down || !bytes.Equal(d.Image(), image) {
		t.Fatalf("%s: the disk is not as it was: %d sectors, %d ops, %d pending", what, d.Size(), d.Ops(), d.Pending())
	}
}

func TestP121New(t *testing.T) {
	if pager.New(nil) != nil {
		t.Error("a pager of no disk")
	}
	d := disk.Load(pages(1, 3), 20)
	p, q := pager.New(d), pager.New(d)
	if p == nil || q == nil || p.Disk() != d || q.Disk() != d {
		t.Fatal("the disk is another one")
	}
	if d.Ops() != 0 || d.Size() != 12 || !bytes.Equal(d.Image(), pages(1, 3)) {
		t.Error("New changed the disk")
	}
	d.Write(4, pages(2, 1))
	for _, x := range []*pager.Pager{p, q} {
		b, e := x.Page(1)
		wantBytes(t, "what was written behind New", b, e, pages(2, 1), api.OK)
	}
	if e := p.Commit([]pager.Write{write(2, 3, 1)}, stable(2, 7, 4)); e != api.OK || q.Pages() != 4 {
		t.Error("one pager's commit is not the other one's:", e, q.Pages())
	}
	wantNewest(t, "the other pager", q, stable(2, 7, 4), 1, api.OK)
}

func TestP121Pages(t *testing.T) {
	for size := range 14 {
		for limit := size; limit < 18; limit++ {
			d, p := loaded(make([]byte, size*api.Sector), limit)
			if p.Pages() != size/4 || p.Limit() != limit/4 {
				t.Errorf("of %d sectors, %d at most: %d pages, %d at most", size, limit, p.Pages(), p.Limit())
			}
			d.Grow(limit)
			if p.Pages() != limit/4 || p.Limit() != limit/4 {
				t.Errorf("grown to %d sectors: %d pages, %d at most", limit, p.Pages(), p.Limit())
			}
		}
	}
	for _, x := range [][2]int{{math.MinInt, 0}, {-1, 0}, {api.MaxDisk - 1, api.MaxPages - 1}, {api.MaxDisk, api.MaxPages}, {math.MaxInt, api.MaxPages}} {
		if p := pager.New(disk.New(x[0])); p.Limit() != x[1] || p.Pages() != 0 {
			t.Errorf("of a limit of %d: %d pages, %d at most", x[0], p.Pages(), p.Limit())
		}
	}
	d, p := loaded(pages(1, 3), 20)
	d.Arm(0)
	d.Sync()
	if p.Pages() != 3 || p.Limit() != 5 {
		t.Error("while the disk is down:", p.Pages(), p.Limit())
	}
}

// All pages and numbers of them, of disks that have a part of a page at the end, too.
func TestP121SomeEach(t *testing.T) {
	image := pages(1, 5)
	for size := range 18 {
		d, p := loaded(image[:size*api.Sector], 20)
		for id := -2; id < 7; id++ {
			for many := -2; many < 7; many++ {
				var want []byte
				wantE := api.ErrRange
				switch {
				case id < 0 || many < 1:
					wantE = api.ErrArg
				case id+many <= size/4:
					want, wantE = image[id*api.Page:(id+many)*api.Page], api.OK
				}
				what := fmt.Sprintf("of %d sectors Some(%d, %d)", size, id, many)
				b, e := p.Some(id, many)
				wantBytes(t, what, b, e, want, wantE)
				if many == 1 {
					b, e = p.Page(id)
					wantBytes(t, what+", as Page", b, e, want, wantE)
				}
			}
		}
		if d.Ops() != 0 || d.Size() != size {
			t.Fatal("to read is an op, or grows the disk")
		}
	}
}

func TestP121SomeEdges(t *testing.T) {
	const most = 2 * api.MaxPages
	image := pages(1, api.MaxPages)
	_, p := loaded(image, api.MaxDisk)
	for _, x := range []struct {
		id, many int
		e        api.Errno
	}{
		{0, api.MaxPages, api.OK}, {api.MaxPages - 1, 1, api.OK}, {2, api.MaxPages - 2, api.OK},
		{0, api.MaxPages + 1, api.ErrRange}, {1, api.MaxPages, api.ErrRange}, {api.MaxPages, 1, api.ErrRange}, {api.MaxPages - 1, 2, api.ErrRange},
		{most, 1, api.ErrRange}, {0, most, api.ErrRange}, {most, most, api.ErrRange}, {most - 1, most - 1, api.ErrRange},
		{most + 1, 1, api.ErrArg}, {0, most + 1, api.ErrArg}, {most + 1, most, api.ErrArg}, {most, most + 1, api.ErrArg}, {most + 1, most + 1, api.ErrArg},
		{math.MaxInt, 1, api.ErrArg}, {0, math.MaxInt, api.ErrArg}, {math.MaxInt, math.MaxInt, api.ErrArg}, {1 << 62, 1, api.ErrArg}, {0, 1 << 62, api.ErrArg}, {1 << 61, 1 << 61, api.ErrArg},
		{math.MinInt, 1, api.ErrArg}, {0, math.MinInt, api.ErrArg}, {math.MinInt, math.MinInt, api.ErrArg}, {math.MinInt, math.MaxInt, api.ErrArg}, {math.MaxInt, math.MinInt, api.ErrArg},
		{0, 0, api.ErrArg}, {api.MaxPages, 0, api.ErrArg}, {-1, 1, api.ErrArg}, {0, -1, api.ErrArg}, {-1, 0, api.ErrArg}, {-1, 2, api.ErrArg},
	} {
		var want []byte
		if x.e == api.OK {
			want = image[x.id*api.Page:][:x.many*api.Page]
		}
		what := fmt.Sprintf("Some(%d, %d)", x.id, x.many)
		b, e := p.Some(x.id, x.many)
		wantBytes(t, what, b, e, want, x.e)
		if x.many == 1 {
			b, e = p.Page(x.id)
			wantBytes(t, what+", as Page", b, e, want, x.e)
		}
	}
}

// The disk's errors come behind ErrArg; while it is down it tells ErrDown of all pages.
func TestP121SomeDown(t *testing.T) {
	d, p := loaded(pages(1, 3), 20)
	d.Arm(0)
	d.Sync()
	for _, x := range []struct {
		id, many int
		e        api.Errno
	}{{0, 1, api.ErrDown}, {2, 1, api.ErrDown}, {3, 1, api.ErrDown}, {0, 9, api.ErrDown}, {2 * api.MaxPages, 1, api.ErrDown}, {-1, 1, api.ErrArg}, {0, 0, api.ErrArg}, {2*api.MaxPages + 1, 1, api.ErrArg}, {0, 2*api.MaxPages + 1, api.ErrArg}} {
		b, e := p.Some(x.id, x.many)
		wantBytes(t, fmt.Sprintf("Some(%d, %d) of a disk that is down", x.id, x.many), b, e, nil, x.e)
	}
	b, e := p.Page(1)
	wantBytes(t, "Page(1) of a disk that is down", b, e, nil, api.ErrDown)
	b, e = p.Page(-1)
	wantBytes(t, "Page(-1) of a disk that is down", b, e, nil, api.ErrArg)
	d.Crash(nil)
	b, e = p.Page(1)
	wantBytes(t, "Page(1) of a disk that is up again", b, e, pages(1, 3)[api.Page:2*api.Page], api.OK)
}

func TestP121ReadsSeeWhatIsNotDurable(t *testing.T) {
	d, p := loaded(slices.Concat(encoded(stable(1, 4, 3)), encoded(stable(1, 5, 3)), pages(1, 1)), 20)
	d.Write(0, encoded(stable(3, 6, 3)))
	d.Write(8, pages(2, 1))
	wantNewest(t, "ahead of a Sync", p, stable(3, 6, 3), 0, api.OK)
	b, e := p.Page(2)
	wantBytes(t, "ahead of a Sync", b, e, pages(2, 1), api.OK)
	d.Crash(nil)
	wantNewest(t, "behind a crash", p, stable(1, 5, 3), 1, api.OK)
	b, e = p.Page(2)
	wantBytes(t, "behind a crash", b, e, pages(1, 1), api.OK)
}

// candidates are pages that may stand where a meta is to be.
func candidates() [][]byte {
	torn, strange := encoded(stable(1, 8, 9)), encoded(stable(1, 8, 9))
	torn[20] ^= 1
	strange[4] = 4
	return [][]byte{
		make([]byte, api.Page), pages(1, 1), torn, strange, sealed(strange),
		encoded(stable(1, 1, 3)), encoded(stable(1, 4, 3)), encoded(stable(2, 5, 4)), encoded(stable(3, 6, 9)), encoded(moving(1, 3, 7, 9, "some key")), encoded(moving(2, 3, 8, 9, "")),
		encoded(stable(2, math.MaxInt32, 3)), encoded(stable(2, math.MaxInt32-1, 3)),
	}
}

// sealed is a page with the sum that a meta has, reckoned bit by bit.
func sealed(b []byte) []byte {
	sum := ^uint32(0)
	for _, c := range b[:252] {
		sum ^= uint32(c)
		for range 8 {
			sum = sum>>1 ^ sum&1*0x82f63b78
		}
	}
	sum = ^sum
	return append(slices.Clone(b[:252]), byte(sum), byte(sum>>8), byte(sum>>16), byte(sum>>24))
}

func TestP121Newest(t *testing.T) {
	var told int
	for i, a := range candidates() {
		for j, b := range candidates() {
			want, wantAt, wantE := meta.Choose(a, b)
			d, p := loaded(slices.Concat(a, b, pages(2, 1)), 20)
			wantNewest(t, fmt.Sprintf("pages %d and %d", i, j), p, want, wantAt, wantE)
			if d.Ops() != 0 {
				t.Fatal("Newest is an op")
			}
			if wantE == api.OK {
				told |= 1 << wantAt
			}
			if wantE == api.ErrMetaGen {
				told |= 4
			}
			if wantE == api.ErrMetaForm {
				told |= 8
			}
		}
	}
	if told != 15 {
		t.Error("the pages don't have all kinds of answers:", told)
	}
}

// Of pages of which a sector is missing nothing is told: they are as good as none.
func TestP121NewestOfAShortDisk(t *testing.T) {
	zero, one := stable(2, 6, 3), stable(2, 7, 3)
	strange := bytes.Clone(encoded(zero))
	strange[4] = 4
	for size := range 10 {
		image := slices.Concat(encoded(zero), encoded(one), pages(1, 1))
		_, p := loaded(image[:size*api.Sector], 20)
		switch {
		case size < 4:
			wantNewest(t, fmt.Sprint("of sectors ", size), p, meta.Meta{}, -1, api.ErrMetaForm)
		case size < 8:
			wantNewest(t, fmt.Sprint("of sectors ", size), p, zero, 0, api.OK)
		default:
			wantNewest(t, fmt.Sprint("of sectors ", size), p, one, 1, api.OK)
		}
	}
	_, p := loaded(sealed(strange), 20)
	wantNewest(t, "of one strange page", p, meta.Meta{}, -1, api.ErrMetaGen)
	_, p = loaded(slices.Concat(make([]byte, api.Page), encoded(one)), 20)
	wantNewest(t, "of zeros, and a meta", p, one, 1, api.OK)
}

func TestP121NewestDown(t *testing.T) {
	for _, image := range [][]byte{nil, make([]byte, 512), slices.Concat(encoded(stable(1, 4, 3)), encoded(stable(1, 5, 3)))} {
		d, p := loaded(image, 20)
		m, at, e := p.Newest()
		d.Arm(0)
		d.Sync()
		wantNewest(t, "down", p, meta.Meta{}, -1, api.ErrDown)
		d.Crash(nil)
		wantNewest(t, "up again", p, m, at, e)
	}
}

// What was told may be written into: the disk stays as it is.
func TestP121SharesNothing(t *testing.T) {
	m := moving(1, 3, 5, 4, "some key")
	image := slices.Concat(make([]byte, api.Page), encoded(m), pages(1, 2))
	d, p := loaded(image, 20)
	one, _ := p.Page(2)
	some, _ := p.Some(1, 3)
	newest, _, _ := p.Newest()
	clear(one)
	clear(some)
	clear(newest.Cursor)
	if !bytes.Equal(d.Image(), image) {
		t.Error("the disk was written into")
	}
	wantNewest(t, "again", p, m, 1, api.OK)
	b, e := p.Some(0, 4)
	wantBytes(t, "again", b, e, image, api.OK)
}

func TestP122Right(t *testing.T) {
	const most = api.MaxPages
	huge, long := stable(2, 3, most), pages(1, 9)
	for i, x := range []struct {
		l  []pager.Write
		m  meta.Meta
		is bool
	}{
		{nil, stable(1, 1, 3), true},
		{[]pager.Write{}, stable(1, 1, 3), true},
		{[]pager.Write{write(2, 1, 1)}, stable(1, 1, 3), true},
		{[]pager.Write{write(2, 1, 5)}, stable(1, 1, 7), true},
		{[]pager.Write{write(6, 1, 1), write(2, 2, 2), write(4, 3, 2)}, stable(3, 1, 7), true},
		{[]pager.Write{write(6, 1, 1), write(2, 2, 2)}, moving(1, 2, 9, 7, "a"), true},
		{[]pager.Write{{Id: 2, B: long[:256]}, {Id: 5, B: long[:256]}, {Id: 3, B: long[100:612]}}, stable(3, 1, 6), true}, // pieces of more bytes
		{[]pager.Write{write(2, 1, most-2)}, huge, true},
		{[]pager.Write{write(most-1, 1, 1), write(2, 1, most-3)}, huge, true},
		{[]pager.Write{write(2, 1, most-1)}, huge, false},
		{[]pager.Write{write(most, 1, 1)}, huge, false},
		{[]pager.Write{write(most-1, 1, 1), write(2, 1, most-2)}, huge, false},
		{[]pager.Write{write(2, 1, 2)}, stable(1, 1, 3), false}, // pages that there are not
		{[]pager.Write{write(3, 1, 1)}, stable(1, 1, 3), false},
		{[]pager.Write{write(5, 1, 3)}, stable(1, 1, 7), false},
		{[]pager.Write{write(1, 1, 1)}, stable(1, 1, 7), false}, // metas' pages, and none
		{[]pager.Write{write(1, 1, 2)}, stable(1, 1, 7), false},
		{[]pager.Write{write(0, 1, 1)}, stable(1, 1, 7), false},
		{[]pager.Write{write(-1, 1, 1)}, stable(1, 1, 7), false},
		{[]pager.Write{write(-1, 1, 4)}, stable(1, 1, 7), false},
		{[]pager.Write{write(math.MinInt, 1, 1)}, stable(1, 1, 7), false},
		{[]pager.Write{write(math.MaxInt, 1, 1)}, stable(1, 1, 7), false},
		{[]pager.Write{write(math.MaxInt, 1, 4)}, stable(1, 1, 7), false},
		{[]pager.Write{{Id: 3}}, stable(1, 1, 7), false}, // no whole pages
		{[]pager.Write{{Id: 3, B: []byte{}}}, stable(1, 1, 7), false},
		{[]pager.Write{{Id: 3, B: []byte{1}}}, stable(1, 1, 7), false},
		{[]pager.Write{{Id: 3, B: pages(1, 1)[:255]}}, stable(1, 1, 7), false},
		{[]pager.Write{{Id: 3, B: pages(1, 2)[:257]}}, stable(1, 1, 7), false},
		{[]pager.Write{{Id: 3, B: pages(1, 2)[:511]}}, stable(1, 1, 7), false},
		{[]pager.Write{{Id: 3, B: pages(1, 1)[:192]}}, stable(1, 1, 7), false},
		{[]pager.Write{{Id: 3, B: pages(1, 2)[:320]}}, stable(1, 1, 7), false},
		{[]pager.Write{{Id: 9}}, stable(1, 1, 7), false},
		{[]pager.Write{write(3, 1, 1), write(3, 1, 1)}, stable(1, 1, 7), false}, // twice
		{[]pager.Write{write(3, 1, 1), write(4, 1, 1), write(3, 2, 1)}, stable(1, 1, 7), false},
		{[]pager.Write{write(3, 1, 2), write(4, 1, 1)}, stable(1, 1, 7), false},
		{[]pager.Write{write(4, 1, 1), write(3, 1, 3)}, stable(1, 1, 7), false},
		{[]pager.Write{write(2, 1, 5), write(6, 1, 1)}, stable(1, 1, 7), false},
		{[]pager.Write{write(3, 1, 1), write(4, 1, 1), {Id: 5}}, stable(1, 1, 7), false}, // the last one
	} {
		if pager.Right(x.l, x.m) != x.is || plainRight(x.l, x.m) != x.is {
			t.Errorf("row %d: Right is not %v", i, x.is)
		}
	}
}

func TestP122RightMeta(t *testing.T) {
	long := func(n int) string { return string(bytes.Repeat([]byte{7}, n)) }
	rooted := func(root, list int) meta.Meta { return meta.Meta{Gen: 2, Txid: 1, Root: root, Pages: 9, List: list} }
	l := []pager.Write{write(2, 1, 1)}
	for _, x := range []struct {
		m  meta.Meta
		is bool
	}{
		{stable(1, 1, 3), true}, {stable(2, 1, 3), true}, {stable(3, 1, 3), true}, {stable(0, 1, 3), false}, {stable(4, 1, 3), false},
		{stable(1, 0, 3), false}, {stable(1, -1, 3), false}, {stable(1, math.MaxInt32, 3), true}, {stable(1, math.MaxInt32+1, 3), false},
		{stable(1, 1, 2), false}, {stable(1, 1, 0), false}, {stable(1, 1, -1), false}, {stable(1, 1, math.MinInt), false}, {stable(1, 1, api.MaxPages), true}, {stable(1, 1, api.MaxPages+1), false}, {stable(1, 1, math.MaxInt), false},
		{rooted(2, 0), true}, {rooted(8, 8), true}, {rooted(1, 0), false}, {rooted(9, 0), false}, {rooted(2, 1), false}, {rooted(2, 9), false},
		{moving(1, 2, 1, 4, long(20)), true}, {moving(1, 2, 1, 4, long(21)), false}, {moving(2, 2, 1, 4, ""), false}, {moving(2, 4, 1, 4, ""), false}, {moving(2, 3, 1, 4, long(24)), true},
		{meta.Meta{}, false},
	} {
		for _, writes := range [][]pager.Write{nil, l} {
			if pager.Right(writes, x.m) != x.is {
				t.Errorf("Right of %d writes, of %v, is not %v", len(writes), x.m, x.is)
			}
		}
	}
}

// All rows of two writes of a few pages, with all numbers around them, and all rows of three of these that are whole.
func TestP122RightEach(t *testing.T) {
	var each, wholes []pager.Write
	for id := -1; id < 8; id++ {
		for _, n := range []int{0, 1, 255, 256, 257, 512, 768} {
			each = append(each, pager.Write{Id: id, B: make([]byte, n)})
		}
		for n := 256; n < 1200; n += 256 {
			wholes = append(wholes, pager.Write{Id: id, B: make([]byte, n)})
		}
	}
	hold := func(l ...pager.Write) {
		for n := 2; n < 9; n++ {
			m := stable(1, 1, n)
			if got, want := pager.Right(l, m), plainRight(l, m); got != want {
				t.Fatalf("Right of %d pages is %v, of %v", n, got, l)
			}
		}
	}
	for _, a := range each {
		hold(a)
		for _, b := range each {
			hold(a, b)
		}
	}
	for _, a := range wholes {
		for _, b := range wholes {
			for _, c := range wholes {
				hold(a, b, c)
			}
		}
	}
}

// Each page of the greatest disk, one by one: none is written twice but the last one.
func TestP122RightMany(t *testing.T) {
	b := pages(1, 1)
	var l []pager.Write
	for id := api.MaxPages - 1; id > 1; id-- {
		l = append(l, pager.Write{Id: id, B: b})
	}
	m := stable(3, 3, api.MaxPages)
	if !pager.Right(l, m) {
		t.Error("each page once is not right")
	}
	for _, id := range []int{2, 3, 9000, api.MaxPages - 1} {
		if pager.Right(append(slices.Clip(l), pager.Write{Id: id, B: b}), m) {
			t.Error("a page twice is right:", id)
		}
	}
}

func TestP122Example(t *testing.T) {
	d := disk.New(80)
	p := pager.New(d)
	m := stable(1, 3, 6)
	if e := p.Commit([]pager.Write{write(5, 1, 1), write(2, 2, 2)}, m); e != api.OK || d.Ops() != 6 || d.Pending() != 0 {
		t.Fatal("Commit of two writes:", e, d.Ops(), d.Pending())
	}
	want := slices.Concat(make([]byte, api.Page), encoded(m), pages(2, 2), make([]byte, api.Page), pages(1, 1))
	d.Crash(nil)
	if !bytes.Equal(d.Image(), want) {
		t.Error("other bytes")
	}
	wantNewest(t, "behind Commit", p, m, 1, api.OK)
}

// file is a disk's bytes: two metas, and so many pages in all.
func file(g, txid, many int) []byte {
	m, ahead := stable(g, txid, many), stable(g, txid-1, many)
	if txid%2 == 0 {
		return slices.Concat(encoded(m), encoded(ahead), pages(txid, many-2))
	}
	return slices.Concat(encoded(ahead), encoded(m), pages(txid, many-2))
}

// rows are writes that are right for seven pages, or more.
func rows() [][]pager.Write {
	return [][]pager.Write{
		nil,
		{write(2, 1, 1)},
		{write(6, 1, 1)},
		{write(2, 1, 5)},
		{write(5, 1, 2), write(3, 2, 1), write(2, 3, 1)},
		{write(2, 1, 1), write(3, 2, 1), write(4, 3, 1), write(5, 4, 1), write(6, 5, 1)},
	}
}

// metas are of seven pages, or more, of both slots, and of all generations.
func metas() []meta.Meta {
	return []meta.Meta{stable(1, 2, 7), stable(2, 3, 7), stable(3, 1, 8), stable(3, 4, 8), moving(1, 2, 5, 7, ""), moving(2, 3, 6, 9, "twenty-four bytes, these"), stable(2, math.MaxInt32, 7), stable(2, math.MaxInt32-1, 7)}
}

// images are disks that have nothing, a part of a page, less pages than are asked for, as many, or more.
func images() [][]byte {
	return [][]byte{nil, pages(1, 1)[:192], file(1, 2, 4), file(2, 3, 7), file(3, 4, 7), pages(2, 12)}
}

func TestP122Ops(t *testing.T) {
	for i, l := range rows() {
		for j, m := range metas() {
			for k, image := range images() {
				what := fmt.Sprintf("Commit of row %d, meta %d, image %d", i, j, k)
				wantOps(t, what, image, m, commitOps(l, m), func(p *pager.Pager) api.Errno { return p.Commit(l, m) })
			}
		}
	}
}

// refusal is writes and a meta that are not right together.
type refusal struct {
	what string
	l    []pager.Write
	m    meta.Meta
}

// refusals are such, though another write beside a wrong one is right.
func refusals() []refusal {
	good, five := write(3, 1, 1), stable(1, 4, 5)
	with := func(w pager.Write) []pager.Write { return []pager.Write{good, w} }
	l := []pager.Write{good}
	return []refusal{
		{"a meta's page", with(write(1, 1, 1)), five},
		{"the other meta's page", with(write(0, 1, 1)), five},
		{"no page", with(write(-1, 1, 1)), five},
		{"beyond the last page", with(write(5, 1, 1)), five},
		{"across the last page", with(write(4, 1, 2)), five},
		{"a page twice", with(write(2, 1, 2)), five},
		{"no bytes", with(pager.Write{Id: 2}), five},
		{"less than a page", with(pager.Write{Id: 2, B: pages(1, 1)[:64]}), five},
		{"more than a page", with(pager.Write{Id: 4, B: pages(1, 2)[:300]}), five},
		{"no transaction", l, stable(1, 0, 5)},
		{"a transaction below 0", l, stable(1, -1, 5)},
		{"a transaction above all", l, stable(1, math.MaxInt32+1, 5)},
		{"no generation", l, stable(0, 4, 5)},
		{"no pages", l, stable(1, 4, 0)},
		{"too few pages", l, stable(1, 4, 3)},
		{"more pages than may be", l, stable(1, 4, api.MaxPages+1)},
		{"the greatest number of pages", l, stable(1, 4, math.MaxInt)},
		{"no root", l, meta.Meta{Gen: 1, Txid: 4, Root: 5, Pages: 5}},
		{"a cursor of one that is Stable", l, meta.Meta{Gen: 1, Txid: 4, Root: 2, Pages: 5, Cursor: []byte{1}}},
		{"no meta", l, meta.Meta{}},
	}
}

// wantRefused holds that what is not right is ErrArg, ahead of all that the disk tells, and changes nothing.
func wantRefused(t *testing.T, what string, call func(p *pager.Pager) api.Errno) {
	t.Helper()
	for limit := range 24 {
		d, p := loaded(file(1, 3, 5), limit)
		wantAsItWas(t, what, d, api.ErrArg, func() api.Errno { return call(p) })
	}
	d, p := loaded(file(1, 3, 5), 99)
	d.Arm(0)
	wantAsItWas(t, what+", armed", d, api.ErrArg, func() api.Errno { return call(p) })
	d.Sync()
	wantAsItWas(t, what+", down", d, api.ErrArg, func() api.Errno { return call(p) })
}

func TestP122Refuses(t *testing.T) {
	for _, x := range refusals() {
		wantRefused(t, "Commit of "+x.what, func(p *pager.Pager) api.Errno { return p.Commit(x.l, x.m) })
	}
}

// wantGrown holds how far a disk grows, and what is told if it can't.
func wantGrown(t *testing.T, what string, call func(p *pager.Pager, m meta.Meta) api.Errno) {
	t.Helper()
	image := file(1, 3, 4)
	for limit := 16; limit < 40; limit++ {
		for n := 3; n < 11; n++ {
			m := stable(1, 4, n)
			d, p := loaded(image, limit)
			if n*4 > limit {
				wantAsItWas(t, fmt.Sprintf("%s, %d pages, %d sectors at most", what, n, limit), d, api.ErrFull, func() api.Errno { return call(p, m) })
				continue
			}
			if e := call(p, m); e != api.OK || d.Size() != max(n, 4)*4 {
				t.Fatalf("%s, %d pages, %d sectors at most: error %d, %d sectors", what, n, limit, e, d.Size())
			}
		}
	}
	d, p := loaded(nil, api.MaxDisk)
	if e := call(p, stable(1, 4, api.MaxPages)); e != api.OK || d.Size() != api.MaxDisk {
		t.Errorf("%s, as many pages as may be: error %d, %d sectors", what, e, d.Size())
	}
	d, p = loaded(nil, api.MaxDisk-1)
	wantAsItWas(t, what+", a sector less", d, api.ErrFull, func() api.Errno { return call(p, stable(1, 4, api.MaxPages)) })
}

// wantDownFirst holds that a disk that is down tells that, whatever its limit.
func wantDownFirst(t *testing.T, what string, call func(p *pager.Pager, m meta.Meta) api.Errno) {
	t.Helper()
	for n := 3; n < 9; n++ {
		d, p := loaded(file(1, 3, 4), 20)
		d.Arm(0)
		d.Write(8, pages(7, 1))
		wantAsItWas(t, what, d, api.ErrDown, func() api.Errno { return call(p, stable(1, 4, n)) })
		d.Crash(nil)
		wantNewest(t, what+", up again", p, stable(1, 3, 4), 1, api.OK)
	}
}

func TestP122Grows(t *testing.T) {
	wantGrown(t, "Commit", func(p *pager.Pager, m meta.Meta) api.Errno { return p.Commit([]pager.Write{write(2, 1, 1)}, m) })
	wantGrown(t, "Commit of none", func(p *pager.Pager, m meta.Meta) api.Errno { return p.Commit(nil, m) })
}

func TestP122Down(t *testing.T) {
	wantDownFirst(t, "Commit", func(p *pager.Pager, m meta.Meta) api.Errno { return p.Commit([]pager.Write{write(2, 1, 1)}, m) })
}

// Commit asks neither what the newest meta is, nor what is in use.
func TestP122AnyTxid(t *testing.T) {
	_, p := loaded(file(1, 8, 4), 40)
	for _, m := range []meta.Meta{stable(1, 3, 5), stable(2, 3, 4), stable(3, 8, 6), stable(1, 2, 4)} {
		l := []pager.Write{write(2, m.Txid, 1), write(3, m.Gen, 1)}
		if e := p.Commit(l, m); e != api.OK {
			t.Fatal("Commit:", m, e)
		}
		b, e := p.Page(m.Txid % 2)
		wantBytes(t, "the meta", b, e, encoded(m), api.OK)
		b, e = p.Some(2, 2)
		wantBytes(t, "what was written", b, e, slices.Concat(l[0].B, l[1].B), api.OK)
	}
}

// wantLeft holds that what is handed in stays as it was, and is not kept by a disk that may lose it yet.
func wantLeft(t *testing.T, what string, call func(p *pager.Pager, l []pager.Write, m meta.Meta) api.Errno) {
	t.Helper()
	for fuse := range 8 {
		m, wantM := moving(1, 3, 4, 7, "some key"), moving(1, 3, 4, 7, "some key")
		given := []pager.Write{write(5, 1, 2), write(3, 2, 1), write(9, 3, 1), write(10, 4, 1)}
		want := []pager.Write{write(5, 1, 2), write(3, 2, 1), write(9, 3, 1), write(10, 4, 1)}
		d, p := loaded(file(1, 3, 7), 40)
		d.Arm(fuse)
		call(p, given[:2], m)
		for k := range want {
			if given[k].Id != want[k].Id || !bytes.Equal(given[k].B, want[k].B) {
				t.Fatalf("%s, down at %d: write %d is another one", what, fuse, k)
			}
		}
		if !meta.Same(m, wantM) {
			t.Fatalf("%s, down at %d: the meta is another one", what, fuse)
		}
		image := d.Image()
		clear(m.Cursor)
		for _, w := range given {
			clear(w.B)
		}
		if !bytes.Equal(d.Image(), image) {
			t.Fatalf("%s, down at %d: what was handed in is kept", what, fuse)
		}
		d.Crash([]bool{true})
		if !bytes.Equal(d.Image(), image) {
			t.Fatalf("%s, down at %d: what was handed in is kept in the row", what, fuse)
		}
	}
}

func TestP122SharesNothing(t *testing.T) {
	wantLeft(t, "Commit", func(p *pager.Pager, l []pager.Write, m meta.Meta) api.Errno { return p.Commit(l, m) })
	l, m := []pager.Write{write(5, 1, 2), write(3, 2, 1)}, moving(1, 3, 4, 7, "some key")
	pager.Right(l, m)
	if l[0].Id != 5 || l[1].Id != 3 || !bytes.Equal(l[0].B, pages(1, 2)) || !bytes.Equal(l[1].B, pages(2, 1)) || !meta.Same(m, moving(1, 3, 4, 7, "some key")) {
		t.Error("Right changed what it was given")
	}
}

func TestP123Example(t *testing.T) {
	d := disk.New(40)
	p := pager.New(d)
	m := stable(2, 2, 5)
	if e := p.Format([]pager.Write{write(4, 1, 1), write(2, 2, 1)}, m); e != api.OK || d.Ops() != 5 || d.Pending() != 0 || p.Pages() != 5 {
		t.Fatal("Format of two writes:", e, d.Ops(), d.Pending(), p.Pages())
	}
	d.Crash(nil)
	want := slices.Concat(encoded(m), encoded(stable(2, 1, 5)), pages(2, 1), make([]byte, api.Page), pages(1, 1))
	if !bytes.Equal(d.Image(), want) {
		t.Error("other bytes")
	}
	wantNewest(t, "behind Format", p, m, 0, api.OK)
	d.Write(0, make([]byte, api.Sector))
	wantNewest(t, "if the newest one is torn", p, stable(2, 1, 5), 1, api.OK)
}

func TestP123Ops(t *testing.T) {
	for i, l := range rows() {
		for j, m := range metas() {
			if m.Txid < 2 {
				continue
			}
			for k, image := range images() {
				what := fmt.Sprintf("Format of row %d, meta %d, image %d", i, j, k)
				wantOps(t, what, image, m, formatOps(l, m), func(p *pager.Pager) api.Errno { return p.Format(l, m) })
			}
		}
	}
}

func TestP123Refuses(t *testing.T) {
	for _, x := range refusals() {
		wantRefused(t, "Format of "+x.what, func(p *pager.Pager) api.Errno { return p.Format(x.l, x.m) })
	}
	for g := 1; g <= 3; g++ {
		for _, l := range [][]pager.Write{nil, {write(2, 1, 1)}} {
			wantRefused(t, "Format of the first transaction", func(p *pager.Pager) api.Errno { return p.Format(l, stable(g, 1, 5)) })
			if e := pager.New(disk.New(20)).Format(l, stable(g, 2, 5)); e != api.OK {
				t.Error("Format of the second transaction:", e)
			}
		}
	}
}

func TestP123Grows(t *testing.T) {
	wantGrown(t, "Format", func(p *pager.Pager, m meta.Meta) api.Errno { return p.Format([]pager.Write{write(2, 1, 1)}, m) })
	wantGrown(t, "Format of none", func(p *pager.Pager, m meta.Meta) api.Errno { return p.Format(nil, m) })
}

func TestP123Down(t *testing.T) {
	wantDownFirst(t, "Format", func(p *pager.Pager, m meta.Meta) api.Errno { return p.Format([]pager.Write{write(2, 1, 1)}, m) })
}

func TestP123SharesNothing(t *testing.T) {
	wantLeft(t, "Format", func(p *pager.Pager, l []pager.Write, m meta.Meta) api.Errno { return p.Format(l, m) })
}

// change is a commit upon a file, all of which is durable.
type change struct {
	image []byte
	l     []pager.Write
	m     meta.Meta
}

// changes are commits upon files of all generations, with metas as a store has them, and one that is torn, or none, where the new one is to stand.
func changes() []change {
	torn := func(m meta.Meta, at int) []byte {
		b := encoded(m)
		clear(b[at : at+api.Sector])
		return b
	}
	body := pages(9, 3)
	one := []pager.Write{write(3, 1, 1)}
	long := "twenty-four bytes, these"
	return []change{
		{file(1, 2, 5), one, stable(1, 3, 5)},
		{file(2, 3, 5), one, stable(2, 4, 5)},
		{file(3, 4, 5), one, stable(3, 5, 6)},
		{file(3, 4, 5), []pager.Write{write(4, 1, 2)}, stable(3, 9, 7)},
		{file(1, 4, 5), []pager.Write{write(6, 1, 1), write(4, 2, 1)}, moving(1, 3, 5, 7, "")},
		{slices.Concat(encoded(moving(2, 3, 6, 5, "a key")), encoded(moving(2, 3, 5, 5, long)), body), one, moving(2, 3, 7, 5, long)},
		{slices.Concat(encoded(moving(1, 2, 6, 5, long[:20])), encoded(moving(1, 2, 7, 5, "a key")), body), one, stable(2, 8, 5)},
		{slices.Concat(encoded(stable(2, 6, 5)), make([]byte, api.Page), body), one, stable(2, 7, 5)},
		{slices.Concat(torn(stable(2, 8, 5), 0), encoded(stable(2, 7, 5)), body), one, stable(2, 8, 5)},
		{slices.Concat(torn(stable(2, 8, 5), 192), encoded(stable(2, 7, 5)), body), one, stable(2, 8, 5)},
		{slices.Concat(encoded(stable(1, 2, 5)), encoded(stable(1, 1, 5)), body), nil, stable(3, math.MaxInt32, 5)},
		{slices.Concat(encoded(stable(1, 3, 5)), encoded(stable(1, 1, 5)), body), nil, stable(1, 2, 5)}, // ahead one stands in no slot of its own
	}
}

// Down at each op, whatever survives.
func TestP124Each(t *testing.T) {
	for i, x := range changes() {
		_, p := loaded(x.image, 40)
		ahead, aheadAt, e := p.Newest()
		if e != api.OK || aheadAt == x.m.Txid%2 || ahead.Txid >= x.m.Txid {
			t.Fatal("the test's change is none of which that is promised:", i, e)
		}
		for fuse := range len(x.l) + 5 {
			d, _ := loaded(x.image, 40)
			d.Arm(fuse)
			e := pager.New(d).Commit(x.l, x.m)
			var olds, news int
			eachKeep(d.Pending(), func(keep []bool) {
				c := d.Copy()
				c.Crash(keep)
				if x.isNew(t, fmt.Sprintf("change %d, down at %d, kept %v", i, fuse, keep), pager.New(c), ahead, aheadAt) {
					news++
				} else {
					olds++
				}
			})
			last := len(x.l) + 2
			if (e == api.OK) != (fuse > last+1) || fuse < last && news != 0 || fuse >= last && news == 0 || fuse > last+1 && olds != 0 || fuse <= last+1 && olds == 0 {
				t.Fatalf("change %d, down at %d: error %d, %d times what was, %d times what is new", i, fuse, e, olds, news)
			}
		}
	}
}

// isNew tells whether the new meta is the newest one, and holds all pages against what they are to have.
func (x change) isNew(t *testing.T, what string, p *pager.Pager, ahead meta.Meta, aheadAt int) bool {
	t.Helper()
	m, at, e := p.Newest()
	is := e == api.OK && at == x.m.Txid%2 && meta.Same(m, x.m)
	if !is && (e != api.OK || at != aheadAt || !meta.Same(m, ahead)) {
		t.Fatalf("%s: Newest is %v, %d, error %d", what, m, at, e)
	}
	written := map[int][]byte{x.m.Txid % 2: nil}
	for _, w := range x.l {
		for k := 0; k < len(w.B); k += api.Page {
			written[w.Id+k/api.Page] = w.B[k : k+api.Page]
		}
	}
	for id := range p.Pages() {
		want, some := written[id]
		if !some {
			want = make([]byte, api.Page)
			copy(want, x.image[min(id*api.Page, len(x.image)):])
		}
		if b, _ := p.Page(id); want != nil && (is || !some) && !bytes.Equal(b, want) {
			t.Fatalf("%s: new is %v: page %d has other bytes", what, is, id)
		}
	}
	return is
}

// A meta that is whole survives each Commit to the other slot; so does what is not written, again and again.
func TestP124AgainAndAgain(t *testing.T) {
	for seed := range 200 {
		r := rand.New(rand.NewPCG(uint64(seed), 124))
		d := disk.New(80)
		p := pager.New(d)
		// State k has the pages from 2 on, or those from 6 on, in turn: so no page of the newest one is written.
		from := func(m meta.Meta) int { return 2 + m.Txid%2*4 }
		newest, bodies := stable(1+seed%3, 2, 10), pages(seed, 4)
		if e := p.Format([]pager.Write{{Id: from(newest), B: bodies}}, newest); e != api.OK {
			t.Fatal("Format:", e)
		}
		for turn := range 30 {
			m := stable(1+r.IntN(3), newest.Txid+1+2*r.IntN(3), 10+r.IntN(9))
			next := pages(seed*100+turn+1000, 4)
			cut := 256 * (1 + r.IntN(3))
			d.Arm(r.IntN(8))
			e := p.Commit([]pager.Write{{Id: from(m) + cut/256, B: next[cut:]}, {Id: from(m), B: next[:cut]}}, m)
			if down := d.Down(); down != (e == api.ErrDown) || down == (e == api.OK) {
				t.Fatalf("seed %d, turn %d: error %d, down: %v", seed, turn, e, down)
			}
			keep := make([]bool, 16)
			for k := range keep {
				keep[k] = r.IntN(4) > 0
			}
			d.Crash(keep)
			got, at, no := p.Newest()
			if no != api.OK || at != got.Txid%2 || !meta.Same(got, m) && (e == api.OK || !meta.Same(got, newest)) {
				t.Fatalf("seed %d, turn %d: error %d, Newest is %v, %d, error %d", seed, turn, e, got, at, no)
			}
			if meta.Same(got, m) {
				newest, bodies = m, next
			}
			b, no := p.Some(from(newest), 4)
			wantBytes(t, fmt.Sprintf("seed %d, turn %d", seed, turn), b, no, bodies, api.OK)
		}
	}
}
