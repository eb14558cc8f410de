package over_test

import (
	"bytes"
	"math"
	"slices"
	"testing"

	"regauge/api"
	"regauge/crc"
	"regauge/over"
)

var allGens = []int{api.G1, api.G2, api.G3}

// noGens are numbers that are of no generation.
var noGens = []int{0, -1, -2, 4, 5, 255, 256 + 1, 1 << 32, 1<<32 + 1, math.MinInt, math.MaxInt}

// some is n bytes, none of them 0 or like the one ahead.
func some(n int) []byte {
	b := make([]byte, n)
	for k := range b {
		b[k] = byte(7*k%250 + 1)
	}
	return b
}

// sizes are lengths of values that have pages, at the edges of these.
func sizes(g int) []int {
	l := []int{33, 34, 100, limitsOf(g).value - 1, limitsOf(g).value}
	for size := 33; size < limitsOf(g).value; size++ {
		if plainMany(g, size) != plainMany(g, size+1) {
			l = append(l, size-1, size, size+1)
		}
	}
	return l
}

// ids are pages that a value of so many may have: of chains they rise, fall, or neither.
func ids(g, many int) [][]int {
	l := [][]int{row(2, many), row(300, many), row(1<<14-many, many)}
	if g != api.G3 {
		back := row(700, many)
		slices.Reverse(back)
		l = append(l, back, []int{1<<14 - 1, 2, 256, 255}[:many], []int{5, 1<<14 - 1, 4, 8000}[:many])
	}
	return l
}

// scribble writes into all bytes.
func scribble(b []byte) {
	for k := range b {
		b[k] ^= 0xff
	}
}

func TestP81Example(t *testing.T) {
	for _, x := range [][3]int{{1, 249, 2}, {3, 240, 1}, {3, 241, 2}} {
		if n := over.Many(x[0], x[1]); n != x[2] {
			t.Errorf("Many(%d, %d) is %d", x[0], x[1], n)
		}
	}
}

func TestP81Many(t *testing.T) {
	for _, x := range [][3]int{
		{1, 33, 1}, {1, 248, 1}, {1, 249, 2}, {1, 400, 2}, {1, 401, 0},
		{2, 33, 1}, {2, 240, 1}, {2, 241, 2}, {2, 480, 2}, {2, 481, 3}, {2, 720, 3}, {2, 721, 4}, {2, 800, 4}, {2, 801, 0},
		{3, 33, 1}, {3, 240, 1}, {3, 241, 2}, {3, 496, 2}, {3, 497, 3}, {3, 752, 3}, {3, 753, 4}, {3, 1520, 6}, {3, 1521, 7}, {3, 1600, 7}, {3, 1601, 0},
	} {
		if n := over.Many(x[0], x[1]); n != x[2] {
			t.Errorf("Many(%d, %d) is %d", x[0], x[1], n)
		}
	}
	for _, g := range allGens {
		for size := -40; size < 2000; size++ {
			if n := over.Many(g, size); n != plainMany(g, size) {
				t.Errorf("Many(%d, %d) is %d", g, size, n)
			}
		}
		for _, size := range []int{math.MinInt, math.MinInt + 1, -1 << 32, 65536, 65536 + 100, 1 << 32, 1<<32 + 100, math.MaxInt - 100, math.MaxInt} {
			if n := over.Many(g, size); n != 0 {
				t.Errorf("Many(%d, %d) is %d", g, size, n)
			}
		}
	}
	for _, g := range noGens {
		for _, size := range []int{math.MinInt, -1, 0, 1, 32, 33, 100, 240, 400, 1600, math.MaxInt} {
			if n := over.Many(g, size); n != 0 {
				t.Errorf("Many(%d, %d) is %d", g, size, n)
			}
		}
	}
}

func TestP81Single(t *testing.T) {
	for g, want := range map[int]bool{1: true, 2: true, 3: false} {
		if over.Single(g) != want {
			t.Errorf("Single(%d) is %v", g, !want)
		}
	}
	for _, g := range noGens {
		if over.Single(g) {
			t.Errorf("Single(%d) is true", g)
		}
	}
}

// The bytes are written out where they stand.
func TestP82Bytes(t *testing.T) {
	v := some(250)
	for i, x := range []struct {
		g     int
		ids   []int
		heads [][]byte
		parts [][]byte
	}{
		{1, []int{258, 5}, [][]byte{{'O', 1, 248, 0, 5, 0, 0, 0}, {'O', 1, 2, 0, 0, 0, 0, 0}}, [][]byte{v[:248], v[248:]}},
		{1, []int{5, 258}, [][]byte{{'O', 1, 248, 0, 2, 1, 0, 0}, {'O', 1, 2, 0, 0, 0, 0, 0}}, [][]byte{v[:248], v[248:]}},
		{2, []int{258, 5}, [][]byte{{'O', 2, 240, 0, 0, 0, 0, 0, 5, 0, 0, 0, 0, 0, 0, 0}, {'O', 2, 10, 0, 0, 0, 0, 0, 0, 0, 0, 0, 0, 0, 0, 0}}, [][]byte{v[:240], v[240:]}},
	} {
		l, e := over.Encode(x.g, v, x.ids)
		if e != api.OK || len(l) != len(x.ids) {
			t.Fatalf("%d: %d pages, %d", i, len(l), e)
		}
		for k := range l {
			want := filled(append(bytes.Clone(x.heads[k]), x.parts[k]...), 1)
			if x.g == api.G2 {
				want = reseal(want)
			}
			if !bytes.Equal(l[k], want) {
				t.Errorf("%d: page %d is %x, want %x", i, k, l[k], want)
			}
		}
	}
	l, e := over.Encode(api.G3, v, []int{258, 259})
	want := reseal(filled(append([]byte{'O', 3, 2, 0, 0, 0, 0, 0, 250, 0, 0, 0, 0, 0, 0, 0}, v...), 2))
	if e != api.OK || len(l) != 2 || !bytes.Equal(l[0], want[:256]) || !bytes.Equal(l[1], want[256:]) {
		t.Errorf("%x, %d, want %x", l, e, want)
	}
	if !crc.Sealed(bytes.Join(l, nil), 4) || crc.Sealed(l[0], 4) {
		t.Error("of an extent the whole is to be sealed, and not the first page alone")
	}
}

func TestP82Encode(t *testing.T) {
	for _, g := range allGens {
		for size := 33; size <= limitsOf(g).value; size++ {
			for _, pages := range ids(g, plainMany(g, size)) {
				for _, v := range [][]byte{some(size), make([]byte, size)} {
					was, wasPages := bytes.Clone(v), slices.Clone(pages)
					l, e := over.Encode(g, v, pages)
					if want := plainEncode(g, was, wasPages); e != api.OK || !slices.EqualFunc(l, want, bytes.Equal) {
						t.Fatalf("G%d, %d bytes, pages %v: %x, %d, want %x", g, size, pages, l, e, want)
					}
					if !bytes.Equal(v, was) || !slices.Equal(pages, wasPages) {
						t.Fatalf("G%d, %d bytes, pages %v: what was given is changed", g, size, pages)
					}
				}
			}
		}
	}
}

func TestP82Refuses(t *testing.T) {
	refused := func(g, size int, pages []int) {
		t.Helper()
		if l, e := over.Encode(g, some(size), pages); len(l) != 0 || e != api.ErrArg {
			t.Errorf("G%d, %d bytes, pages %v: %d pages, %d", g, size, pages, len(l), e)
		}
	}
	for _, g := range allGens {
		for _, size := range []int{0, 1, 31, 32, limitsOf(g).value + 1, limitsOf(g).value + 2, 2000, 70000} {
			for many := range 10 {
				refused(g, size, row(5, many))
			}
		}
		for _, size := range sizes(g) {
			many := plainMany(g, size)
			refused(g, size, nil)
			refused(g, size, row(5, many-1))
			refused(g, size, row(5, many+1))
			refused(g, size, row(5, 20))
			for k := range many {
				for _, id := range []int{-1, 0, 1, 1 << 14, 1<<14 + 1, 1 << 16, 1<<32 + 5 + k, math.MinInt, math.MaxInt} {
					l := row(5, many)
					l[k] = id
					refused(g, size, l)
				}
				for other := range k {
					l := row(5, many)
					l[k] = l[other]
					refused(g, size, l)
				}
			}
			refused(g, size, row(1, many))
			refused(g, size, row(0, many))
			refused(g, size, row(-many, many))
			refused(g, size, row(1<<14-many+1, many))
			refused(g, size, row(math.MaxInt-many+1, many))
		}
	}
	for _, g := range noGens {
		for _, size := range []int{0, 32, 33, 100, 250, 400} {
			for many := range 4 {
				refused(g, size, row(5, many))
			}
		}
	}
}

// Of an extent each page is to be one more than that ahead.
func TestP82ExtentsAreRows(t *testing.T) {
	for _, size := range sizes(api.G3) {
		many := plainMany(api.G3, size)
		for k := 1; k < many; k++ {
			for _, by := range []int{1, 2, 100, -1, -3} {
				l := row(1000, many)
				for j := k; j < many; j++ {
					l[j] += by
				}
				if b, e := over.Encode(api.G3, some(size), l); len(b) != 0 || e != api.ErrArg {
					t.Errorf("pages %v: %d", l, e)
				}
				l = row(1000, many)
				l[k] += by
				if b, e := over.Encode(api.G3, some(size), l); len(b) != 0 || e != api.ErrArg {
					t.Errorf("pages %v: %d", l, e)
				}
			}
		}
		back := row(1000, many)
		slices.Reverse(back)
		if _, e := over.Encode(api.G3, some(size), back); many > 1 && e != api.ErrArg {
			t.Errorf("pages %v: %d", back, e)
		}
	}
}

// A page changes neither with what it was made of, nor with the one ahead of it, when that is written into, or grows.
func TestP82SharesNothing(t *testing.T) {
	for _, g := range allGens {
		for _, size := range sizes(g) {
			v, pages := some(size), row(9, plainMany(g, size))
			want := plainEncode(g, v, pages)
			l, _ := over.Encode(g, v, pages)
			scribble(v)
			clear(pages)
			for k := range l {
				if !bytes.Equal(l[k], want[k]) {
					t.Fatalf("G%d, %d bytes: page %d changes", g, size, k)
				}
				_ = append(l[k], some(300)...)
				scribble(l[k])
			}
		}
	}
}

// What stands behind the value, and the pages' numbers, in the caller's memory stays there.
func TestP82Capacity(t *testing.T) {
	for _, g := range allGens {
		for _, size := range sizes(g) {
			v, pages := some(size+600), row(9, plainMany(g, size)+4)
			was, wasPages := bytes.Clone(v), slices.Clone(pages)
			l, e := over.Encode(g, v[:size], pages[:len(pages)-4])
			if e != api.OK || !slices.EqualFunc(l, plainEncode(g, was[:size], wasPages[:len(pages)-4]), bytes.Equal) {
				t.Errorf("G%d, %d bytes: %d", g, size, e)
			}
			if !bytes.Equal(v, was) || !slices.Equal(pages, wasPages) {
				t.Errorf("G%d, %d bytes: what stands behind is written over", g, size)
			}
		}
	}
}

func TestP83Decode(t *testing.T) {
	for _, g := range allGens {
		for size := 33; size <= limitsOf(g).value; size++ {
			for _, pages := range ids(g, plainMany(g, size)) {
				v := some(size)
				f := fileOf(plainEncode(g, v, pages), pages)
				got, value, back, e := over.Decode(f.read, pages[0], size)
				if got != g || !bytes.Equal(value, v) || !slices.Equal(back, pages) || e != api.OK {
					t.Fatalf("G%d, %d bytes, pages %v: %d, %x, %v, %d", g, size, pages, got, value, back, e)
				}
			}
		}
	}
}

// The size that is asked for is another one than the value has, or none that may be; and values whose last bytes are zeros are told from shorter ones.
func TestP83Sizes(t *testing.T) {
	for _, g := range allGens {
		for _, size := range sizes(g) {
			pages := row(7, plainMany(g, size))
			for _, v := range [][]byte{some(size), make([]byte, size)} {
				f := fileOf(plainEncode(g, v, pages), pages)
				for other := -10; other < 1700; other++ {
					decodes(t, f, 7, other)
				}
				for _, other := range []int{math.MinInt, -size, 65536 + size, 1<<32 + size, math.MaxInt} {
					decodes(t, f, 7, other)
				}
			}
		}
	}
}

func TestP83Nil(t *testing.T) {
	for _, id := range []int{2, 0, -1, math.MaxInt} {
		for _, size := range []int{100, 0, -1, math.MaxInt} {
			if g, value, pages, e := over.Decode(nil, id, size); g != 0 || len(value) != 0 || len(pages) != 0 || e != api.ErrArg {
				t.Errorf("%d, %d: %d, %x, %v, %d", id, size, g, value, pages, e)
			}
		}
	}
}

// refuses asks for a value, and wants nothing but an error.
func refuses(t *testing.T, read over.Read, id, size int, want api.Errno) {
	t.Helper()
	if g, value, pages, e := over.Decode(read, id, size); g != 0 || len(value) != 0 || len(pages) != 0 || e != want {
		t.Errorf("page %d, size %d: %d, %x, %v, %d, want %d", id, size, g, value, pages, e, want)
	}
}

// asksOnce wants a value to be refused when its first page is known.
func asksOnce(t *testing.T, f *file, id, size int, want api.Errno) {
	t.Helper()
	refuses(t, f.read, id, size, want)
	if !slices.Equal(f.asked, [][2]int{{id, 1}}) {
		t.Errorf("page %d, size %d: asked for %v", id, size, f.asked)
	}
}

// The first page's error is told, whatever it is, and whatever else is wrong; a later one's is not.
func TestP83Errors(t *testing.T) {
	for _, no := range []api.Errno{api.ErrDown, api.ErrRange, api.ErrArg, api.ErrTxnCorrupt, api.ErrOverForm, -5, 1 << 20} {
		for _, g := range allGens {
			for _, size := range sizes(g) {
				pages := row(7, plainMany(g, size))
				l := plainEncode(g, some(size), pages)
				for bad := range pages {
					f := fileOf(l, pages)
					read := func(id, many int) ([]byte, api.Errno) {
						b, e := f.read(id, many)
						if id <= pages[bad] && pages[bad] < id+many {
							return b, no
						}
						return b, e
					}
					want := api.ErrOverForm
					if bad == 0 {
						want = no
					}
					refuses(t, read, 7, size, want)
					if bad == 0 {
						refuses(t, read, 7, -1, no)
						refuses(t, read, 7, size+2000, no)
					}
				}
			}
		}
	}
	for _, id := range []int{math.MinInt, -1, 0, 1, 1 << 14, math.MaxInt} {
		asksOnce(t, fileOf(nil, nil), id, 100, api.ErrRange)
	}
}

// eachAsk asks for values of which what one ask is told is spoiled, and wants them refused.
func eachAsk(t *testing.T, spoil func(b []byte) []byte) {
	t.Helper()
	for _, g := range allGens {
		for _, size := range sizes(g) {
			pages := row(7, plainMany(g, size))
			l := plainEncode(g, some(size), pages)
			good := fileOf(l, pages)
			over.Decode(good.read, 7, size)
			for bad := range good.asked {
				f := fileOf(l, pages)
				refuses(t, func(id, many int) ([]byte, api.Errno) {
					b, e := f.read(id, many)
					if len(f.asked)-1 == bad {
						b = spoil(b)
					}
					return b, e
				}, 7, size, api.ErrOverForm)
			}
		}
	}
}

func TestP83Lengths(t *testing.T) {
	for _, by := range []int{1, 240, 255, 256} {
		eachAsk(t, func(b []byte) []byte { return b[:len(b)-by] })
		eachAsk(t, func(b []byte) []byte { return append(b, make([]byte, by)...) })
	}
	eachAsk(t, func([]byte) []byte { return nil })
	eachAsk(t, func([]byte) []byte { return []byte{'O', 1} })
}

// An extent is told whole, but cut between two asks at another place than a page's end.
func TestP83Cut(t *testing.T) {
	b := plainExtent(3, 700, 3, some(700))
	for _, by := range []int{-240, -1, 1, 256} {
		parts := [][]byte{b[:256+by], b[256+by:]}
		refuses(t, func(int, int) ([]byte, api.Errno) {
			part := parts[0]
			parts = append(parts[1:], nil)
			return part, api.OK
		}, 7, 700, api.ErrOverForm)
	}
}

// What read tells that panics is no page's bytes.
func TestP83Panics(t *testing.T) {
	eachAsk(t, func([]byte) []byte { panic("no page") })
}

// Each byte of each page is another one, as it is, and sealed again.
func TestP83EachByte(t *testing.T) {
	for _, g := range allGens {
		for _, size := range []int{33, 240, 241, 249, 400} {
			pages := row(5, plainMany(g, size))
			f := fileOf(plainEncode(g, some(size), pages), pages)
			for k, id := range pages {
				for at := range 256 {
					for to := range 256 {
						if at > 20 && to%51 != 0 { // far down all is alike
							continue
						}
						eachByte(t, f, g, pages, k, at, byte(to), size)
					}
				}
				decodes(t, f, id, size)
			}
		}
	}
}

func eachByte(t *testing.T, f *file, g int, pages []int, k, at int, to byte, size int) {
	t.Helper()
	x := f.copy()
	x.pages[pages[k]][at] = to
	decodes(t, x, pages[0], size)
	if g == api.G2 {
		x.pages[pages[k]] = reseal(x.pages[pages[k]])
	}
	if g == api.G3 {
		resealExtent(x, pages)
	}
	decodes(t, x, pages[0], size)
}

func resealExtent(f *file, pages []int) {
	var b []byte
	for _, id := range pages {
		b = append(b, f.pages[id]...)
	}
	b = reseal(b)
	for k, id := range pages {
		f.pages[id] = b[256*k : 256*k+256]
	}
}

// Chains that are wrong in one way each: their pages are sealed.
func TestP83Chains(t *testing.T) {
	for _, g := range []int{api.G1, api.G2} {
		room := limitsOf(g).room
		v := some(room + 60)
		size := len(v)
		first := func(count, next int) []byte { return plainLink(g, count, next, v[:room]) }
		last := func(count, next int) []byte { return plainLink(g, count, next, v[room:]) }
		f := fileOf([][]byte{first(room, 9), last(60, 0)}, []int{5, 9})
		decodes(t, f, 5, size)
		if _, _, _, e := over.Decode(f.read, 5, size); e != api.OK {
			t.Fatalf("G%d: %d", g, e)
		}
		long := plainLink(g, 60, 0, append(bytes.Clone(v[room:]), 1))
		other := plainLink(3-g, 60, 0, v[room:])
		leaf := last(60, 0)
		leaf[0] = 'L'
		for i, l := range [][][]byte{
			{first(room, 0), last(60, 0)},
			{first(room, 5), last(60, 0)},
			{first(room, 8), last(60, 0)},
			{first(room, 1), last(60, 0)},
			{first(room, 1<<14), last(60, 0)},
			{first(room, 65536+9), last(60, 0)},
			{first(room-1, 9), last(60, 0)},
			{first(room+1, 9), last(60, 0)},
			{first(room+256, 9), last(60, 0)},
			{first(size, 9), last(60, 0)},
			{first(room, 9), last(59, 0)},
			{first(room, 9), last(61, 0)},
			{first(room, 9), last(size, 0)},
			{first(room, 9), last(60, 5)},
			{first(room, 9), last(60, 9)},
			{first(room, 9), last(60, 11)},
			{first(room, 9), long},
			{first(room, 9), other},
			{first(room, 9), leaf},
			{first(room, 9), make([]byte, 256)},
			{last(60, 9), last(60, 0)},
			{last(60, 0), first(room, 5)},
		} {
			x := fileOf(l, []int{5, 9})
			x.pages[11] = plainLink(g, 60, 0, v[room:])
			decodes(t, x, 5, size)
			if _, _, _, e := over.Decode(x.read, 5, size); e != api.ErrOverForm {
				t.Errorf("%d of G%d is not refused: %d", i, g, e)
			}
			decodes(t, x, 9, size)
			decodes(t, x, 9, 60)
		}
	}
}

// A page that can't be is not asked for, but for the first one, which the caller names.
func TestP83Asks(t *testing.T) {
	for _, g := range []int{api.G1, api.G2} {
		for _, next := range []int{0, 1, 1 << 14, 1<<31 + 5, 1<<32 - 1, 1 << 62, math.MaxInt, -1} {
			b := plainLink(g, limitsOf(g).room, next, some(limitsOf(g).room))
			asksOnce(t, fileOf([][]byte{b}, []int{5}), 5, 300, api.ErrOverForm)
		}
	}
	l := plainEncode(api.G3, some(800), row(5, 4))
	for _, id := range []int{1<<14 - 3, 1<<14 - 1, 1 << 14, 1, 0, -1, math.MinInt, math.MaxInt} {
		asksOnce(t, fileOf(l[:1], []int{id}), id, 800, api.ErrOverForm)
	}
}

// What stands from a page on that is no place for a value is none, even if read tells it.
func TestP83Places(t *testing.T) {
	for _, g := range allGens {
		for _, size := range sizes(g) {
			many := plainMany(g, size)
			for _, from := range []int{-1, 0, 1, 2, 1<<14 - many, 1<<14 - many + 1, 1 << 14, math.MaxInt - 10} {
				pages := row(from, many)
				f := fileOf(plainEncode(g, some(size), pages), pages)
				decodes(t, f, from, size)
			}
		}
	}
}

// Rings, from each page of a chain to each one: it ends, and is refused.
func TestP83Rings(t *testing.T) {
	for _, g := range []int{api.G1, api.G2} {
		room := limitsOf(g).room
		for _, many := range []int{1, 2, 3, 4} {
			size := min(many*room, limitsOf(g).value)
			if plainMany(g, size) != many {
				continue
			}
			pages := row(5, many)
			for from := range many {
				for to := range many {
					v := bytes.Repeat(some(room), many)[:size]
					l := plainEncode(g, v, pages)
					count := min(room, size-from*room)
					l[from] = plainLink(g, count, pages[to], v[from*room:from*room+count])
					decodes(t, fileOf(l, pages), 5, size)
				}
			}
		}
	}
}

// Extents that are wrong in one way each: the whole is sealed.
func TestP83Extents(t *testing.T) {
	v := some(300)
	each := func(b []byte) [][]byte { return [][]byte{b[:256], b[256:512]} }
	for i, x := range []struct {
		l    [][]byte
		want api.Errno
	}{
		{each(plainExtent(2, 300, 2, v)), api.OK},
		{each(plainExtent(1, 300, 2, v)), api.ErrOverForm},
		{each(plainExtent(3, 300, 2, v)), api.ErrOverForm},
		{each(plainExtent(0, 300, 2, v)), api.ErrOverForm},
		{each(plainExtent(256+2, 300, 2, v)), api.ErrOverForm},
		{each(plainExtent(2, 299, 2, v)), api.ErrOverForm},
		{each(plainExtent(2, 301, 2, v)), api.ErrOverForm},
		{each(plainExtent(2, 0, 2, v)), api.ErrOverForm},
		{each(plainExtent(2, 65536+300, 2, v)), api.ErrOverForm},
		{each(plainExtent(2, -1, 2, v)), api.ErrOverForm},
		{each(plainExtent(2, 300, 2, some(301))), api.ErrOverForm},
		{each(plainExtent(2, 300, 2, some(496))), api.ErrOverForm},
		{[][]byte{plainExtent(2, 300, 1, v[:240]), filled(v[240:], 1)}, api.ErrOverForm}, // the first page is sealed alone
		{[][]byte{plainExtent(2, 300, 1, v[:240]), plainExtent(2, 300, 1, v[240:])}, api.ErrOverForm},
		{[][]byte{plainExtent(2, 300, 2, v)[:256], filled(v[241:], 1)}, api.ErrOverForm},
		{[][]byte{filled(append(head(api.G3, 2, 300), v[:240]...), 1), filled(v[240:], 1)}, api.ErrOverForm}, // not sealed
	} {
		f := fileOf(x.l, []int{5, 6})
		decodes(t, f, 5, 300)
		if _, _, _, e := over.Decode(f.read, 5, 300); e != x.want {
			t.Errorf("%d: %d, want %d", i, e, x.want)
		}
		decodes(t, f, 6, 300)
		decodes(t, f, 5, 240)
	}
}

// Pages of other kinds and generations, and bytes that are none.
func TestP83Kinds(t *testing.T) {
	for _, g := range allGens {
		pages := row(5, 2)
		f := fileOf(plainEncode(g, some(300), pages), pages)
		for first := range 256 {
			for second := range 6 {
				for k := range pages {
					x := f.copy()
					x.pages[pages[k]][0], x.pages[pages[k]][1] = byte(first), byte(second)
					decodes(t, x, 5, 300)
					x.pages[pages[k]] = reseal(x.pages[pages[k]])
					decodes(t, x, 5, 300)
					resealExtent(x, pages)
					decodes(t, x, 5, 300)
				}
			}
		}
	}
}

// What is told changes neither with the pages, nor with what else is told; and read may tell the same memory again and again.
func TestP83SharesNothing(t *testing.T) {
	for _, g := range allGens {
		for _, size := range sizes(g) {
			pages := row(5, plainMany(g, size))
			v := some(size)
			f := fileOf(plainEncode(g, v, pages), pages)
			memory := make([]byte, 20*256)
			var told []byte
			read := func(id, many int) ([]byte, api.Errno) {
				b, e := f.read(id, many)
				clear(memory)
				copy(memory, b)
				told = memory[:len(b)]
				return told, e
			}
			_, value, back, e := over.Decode(read, 5, size)
			last := f.asked[len(f.asked)-1]
			kept, _ := f.read(last[0], last[1])
			if !bytes.Equal(told, kept) {
				t.Fatalf("G%d, %d bytes: what read told is written into", g, size)
			}
			if !isZero(memory[len(told):]) {
				t.Fatalf("G%d, %d bytes: what stands behind it is written over", g, size)
			}
			scribble(memory)
			if e != api.OK || !bytes.Equal(value, v) || !slices.Equal(back, pages) {
				t.Fatalf("G%d, %d bytes: %x, %v, %d", g, size, value, back, e)
			}
			scribble(value)
			_ = append(back, 7, 7, 7)
			if _, again, _, _ := over.Decode(read, 5, size); !bytes.Equal(again, v) {
				t.Fatalf("G%d, %d bytes: %x, the second time", g, size, again)
			}
		}
	}
}

// Files of any bytes, most of them with heads that may be, and small numbers.
func TestP83AnyBytes(t *testing.T) {
	r := dice(83)
	for range 30000 {
		g := allGens[r.IntN(3)]
		f := fileOf(nil, nil)
		for id := range 8 {
			b := someBytes(r, 256)
			clear(b[r.IntN(257):])
			count := []int{limitsOf(g).room, 60, 1 + r.IntN(7)}[r.IntN(3)]
			next := []int{0, r.IntN(8), 300, r.IntN(1600)}[r.IntN(4)]
			copy(b, head(g, count, next))
			f.pages[id] = reseal(b)
			if g == api.G1 {
				f.pages[id] = b
			}
		}
		size := []int{60, 300, limitsOf(g).room + 60, 2 * limitsOf(g).room, 33 + r.IntN(1600)}[r.IntN(5)]
		decodes(t, f, r.IntN(8), size)
		if many := plainMany(g, size); g == api.G3 && many > 0 {
			resealExtent(f, row(r.IntN(9-many), many))
			decodes(t, f, r.IntN(8), size)
		}
	}
}

func TestP84RoundTrip(t *testing.T) {
	r := dice(84)
	for range 6000 {
		g := allGens[r.IntN(3)]
		v := someBytes(r, 33+r.IntN(limitsOf(g).value-32))
		pages := someIds(r, g, over.Many(g, len(v)))
		l, e := over.Encode(g, v, pages)
		if e != api.OK {
			t.Fatalf("G%d, %x, pages %v: %d", g, v, pages, e)
		}
		f := fileOf(l, pages)
		got, value, back, e := over.Decode(f.read, pages[0], len(v))
		if got != g || !bytes.Equal(value, v) || !slices.Equal(back, pages) || e != api.OK {
			t.Fatalf("G%d, %x, pages %v: %d, %x, %v, %d", g, v, pages, got, value, back, e)
		}
		if len(f.asked) > 20 {
			t.Fatalf("asked for %v", f.asked)
		}
	}
}

// Two values stand side by side: each is decoded as it was, and neither from a page of the other one's.
func TestP84TwoValues(t *testing.T) {
	for _, g := range allGens {
		for _, h := range allGens {
			a, b := some(400), bytes.Repeat([]byte{9}, 333)
			at, bt := row(5, over.Many(g, 400)), row(10, over.Many(h, 333))
			l, _ := over.Encode(g, a, at)
			m, _ := over.Encode(h, b, bt)
			f := fileOf(slices.Concat(l, m), slices.Concat(at, bt))
			for _, id := range slices.Concat(at, bt) {
				decodes(t, f, id, 400)
				decodes(t, f, id, 333)
			}
			if got, value, _, e := over.Decode(f.read, 5, 400); got != g || !bytes.Equal(value, a) || e != api.OK {
				t.Errorf("G%d beside G%d: %d, %x, %d", g, h, got, value, e)
			}
			if got, value, _, e := over.Decode(f.read, 10, 333); got != h || !bytes.Equal(value, b) || e != api.OK {
				t.Errorf("G%d beside G%d: %d, %x, %d", h, g, got, value, e)
			}
		}
	}
}

// With a bit turned pages are decoded as the value no more; of G2 and G3 they are refused.
func TestP84Bits(t *testing.T) {
	for _, g := range allGens {
		for _, size := range []int{33, 300, 400} {
			pages, v := row(5, plainMany(g, size)), some(size)
			l, _ := over.Encode(g, v, pages)
			f := fileOf(l, pages)
			for bit := range 2048 * len(pages) {
				b := f.pages[pages[bit/2048]]
				b[bit%2048/8] ^= 1 << (bit % 8)
				_, value, back, e := over.Decode(f.read, 5, size)
				if e == api.OK && (g != api.G1 || bytes.Equal(value, v) && slices.Equal(back, pages)) || e != api.OK && e != api.ErrOverForm {
					t.Fatalf("G%d, %d bytes, bit %d: %x, %v, %d", g, size, bit, value, back, e)
				}
				b[bit%2048/8] ^= 1 << (bit % 8)
			}
		}
	}
}
