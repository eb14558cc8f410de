package item_test

import (
	"bytes"
	"math"
	"slices"
	"testing"

	"regauge/api"
	"regauge/item"
)

// noGens are numbers that are of no generation.
var noGens = []int{0, -1, -2, -3, 4, 5, 255, 256, 257, 1 << 32, 1<<32 + 1, math.MinInt, math.MinInt + 1, math.MaxInt}

var allGens = []int{api.G1, api.G2, api.G3}

// limits is what a generation has, as the chapter's table tells it.
type limits struct{ key, value, id, head, room int }

func limitsOf(g int) limits {
	switch g {
	case api.G1:
		return limits{16, 400, 4, 8, 248}
	case api.G2:
		return limits{20, 800, 8, 16, 240}
	case api.G3:
		return limits{24, 1600, 8, 16, 240}
	}
	return limits{}
}

// some is n bytes, none of them like the one ahead.
func some(n int) []byte {
	var b []byte
	for k := range n {
		b = append(b, byte(7*k+1))
	}
	return b
}

func TestP51Generations(t *testing.T) {
	for _, g := range slices.Concat(allGens, noGens) {
		got := limits{item.MaxKey(g), item.MaxValue(g), item.IdWidth(g), item.Head(g), item.Cap(g)}
		if want := limitsOf(g); got != want {
			t.Errorf("%d has %v, want %v", g, got, want)
		}
		if got, want := item.Gen(g), slices.Contains(allGens, g); got != want {
			t.Errorf("Gen(%d) is %v", g, got)
		}
	}
}

func TestP51Compare(t *testing.T) {
	rising := [][]byte{
		nil, {0}, {0, 0}, {0, 1}, {1}, {1, 0}, {1, 0, 0}, {1, 0, 1}, {1, 1}, {1, 255}, {2},
		[]byte("a"), []byte("a\x00"), []byte("aa"), []byte("ab"), []byte("b"),
		{127}, {127, 255}, {128}, {128, 0}, {255}, {255, 0}, {255, 255}, {255, 255, 255},
	}
	for i, a := range rising {
		for j, b := range rising {
			want := 0
			if i < j {
				want = -1
			} else if i > j {
				want = 1
			}
			if got := item.Compare(a, b); got != want {
				t.Errorf("Compare(%v, %v) is %d", a, b, got)
			}
		}
	}
	if item.Compare(nil, []byte{}) != 0 || item.Compare([]byte{}, nil) != 0 {
		t.Error("an empty key is not as good as none")
	}
}

// Keys differ at one byte, at each place of the longest one, whatever stands behind it.
func TestP51CompareEachByte(t *testing.T) {
	for at := range 24 {
		for x := range 256 {
			for _, y := range []int{0, 1, 127, 128, 255} {
				a, b := some(24), some(24)
				a[at], b[at] = byte(x), byte(y)
				if at < 23 {
					a[23], b[23] = byte(y), byte(x)
				}
				want := 0
				if x < y {
					want = -1
				} else if x > y {
					want = 1
				}
				if got := item.Compare(a, b); got != want {
					t.Fatalf("Compare(%v, %v) is %d", a, b, got)
				}
			}
		}
	}
}

func TestP51Of(t *testing.T) {
	for _, n := range []int{0, 1, 16, 24, 32, 33, 1600, 5000} {
		key, value := some(n), append(some(n), 9)
		it := item.Of(key, value)
		if !bytes.Equal(it.Key, key) || !bytes.Equal(it.Value, value) || it.Size != 0 || it.Ref != 0 {
			t.Errorf("Of %d bytes: %v", n, it)
		}
	}
	if it := item.Of(nil, nil); len(it.Key) != 0 || len(it.Value) != 0 || it.Size != 0 || it.Ref != 0 {
		t.Errorf("Of nothing: %v", it)
	}
}

// Key and value are given as pieces of one row, the same one twice, and with room behind them.
func TestP51OfCopies(t *testing.T) {
	whole := some(12)
	was := slices.Clone(whole)
	for _, x := range [][2][]byte{{whole[:4], whole[4:8]}, {whole[:4], whole[:4]}, {whole[2:6], whole[:8]}, {whole[:0], whole[:0]}, {whole, whole}} {
		it := item.Of(x[0], x[1])
		key, value := slices.Clone(x[0]), slices.Clone(x[1])
		for k := range whole {
			whole[k] = 99
		}
		if !bytes.Equal(it.Key, key) || !bytes.Equal(it.Value, value) {
			t.Errorf("what was given is kept: %v", it)
		}
		copy(whole, was)
		fill(it.Key)
		if !bytes.Equal(it.Value, value) {
			t.Errorf("key and value share: %v", it)
		}
		fill(it.Value)
		if !bytes.Equal(whole, was) {
			t.Fatalf("what is told is what was given: %v", whole)
		}
	}
}

// fill writes into all of a slice, and into the room behind it.
func fill(b []byte) {
	b = b[:cap(b)]
	for k := range b {
		b[k] = 77
	}
}

func TestP51FarLong(t *testing.T) {
	for _, x := range []struct {
		it   item.Item
		far  bool
		long int
	}{
		{item.Item{}, false, 0},
		{item.Item{Value: []byte{}}, false, 0},
		{item.Of(some(3), nil), false, 0},
		{item.Of(some(3), some(1)), false, 1},
		{item.Of(some(40), some(31)), false, 31},
		{item.Of(some(3), some(32)), false, 32},
		{item.Of(some(3), some(33)), true, 33},
		{item.Of(nil, some(1601)), true, 1601},
		{item.Item{Key: some(3), Size: 100, Ref: 7}, true, 100},
		{item.Item{Key: some(3), Size: 5, Ref: 7}, true, 5},
		{item.Item{Key: some(3), Ref: 7}, true, 0},
		{item.Item{Key: some(3), Size: 100, Ref: -1}, true, 100},
		{item.Item{Key: some(3), Size: 100, Ref: math.MinInt}, true, 100},
		{item.Item{Key: some(3), Size: 100, Ref: 1 << 40}, true, 100},
		{item.Item{Key: some(3), Size: 100}, false, 0},
		{item.Item{Key: some(3), Value: some(9), Size: 100}, false, 9},
		{item.Item{Key: some(3), Value: some(40), Size: 100}, true, 40},
		{item.Item{Key: some(3), Value: some(9), Size: 100, Ref: 7}, true, 100},
	} {
		if far, long := item.Far(x.it), item.Long(x.it); far != x.far || long != x.long {
			t.Errorf("%v: %v, %d, want %v, %d", x.it, far, long, x.far, x.long)
		}
	}
}

// Of a row of items, no two of which are the same, each is the same as its own copy alone.
func TestP51Same(t *testing.T) {
	l := []item.Item{
		{},
		{Key: []byte("a")},
		{Key: []byte("b")},
		{Key: []byte("ab")},
		{Value: []byte("a")},
		{Value: []byte("b")},
		{Value: []byte("ab")},
		{Size: 1},
		{Size: -1},
		{Size: 97},
		{Ref: 1},
		{Ref: -1},
		{Ref: 97},
		{Size: 1, Ref: 1},
		{Size: 1, Ref: 2},
		{Size: 2, Ref: 1},
		{Key: []byte("a"), Value: []byte("a")},
		{Key: []byte("a"), Value: []byte("b")},
		{Key: []byte("b"), Value: []byte("a")},
		{Key: []byte("a"), Value: []byte("a\x00")},
		{Key: []byte("a\x00"), Value: []byte("a")},
		{Key: []byte("a"), Value: []byte("a"), Size: 1},
		{Key: []byte("a"), Value: []byte("a"), Ref: 1},
		{Key: []byte("a"), Value: []byte("a"), Size: 1, Ref: 1},
	}
	for i, a := range l {
		for j, b := range l {
			b.Key, b.Value = bytes.Clone(b.Key), bytes.Clone(b.Value)
			if got := item.Same(a, b); got != (i == j) {
				t.Errorf("Same(%v, %v) is %v", a, b, got)
			}
		}
	}
	if !item.Same(item.Item{}, item.Of([]byte{}, []byte{})) || !item.Same(item.Item{Key: []byte{}, Value: []byte{}}, item.Item{}) {
		t.Error("empty bytes are not as good as none")
	}
}

func TestP52Why(t *testing.T) {
	for _, g := range allGens {
		m := limitsOf(g)
		for _, x := range []struct {
			key, value int
			want       api.Errno
		}{
			{1, 0, api.OK},
			{1, m.value, api.OK},
			{m.key, 0, api.OK},
			{m.key, m.value, api.OK},
			{3, 32, api.OK},
			{3, 33, api.OK},
			{0, 0, api.ErrItemKey},
			{0, 5, api.ErrItemKey},
			{m.key + 1, 5, api.ErrItemKey},
			{5000, 5, api.ErrItemKey},
			{256 + 1, 5, api.ErrItemKey},
			{1, m.value + 1, api.ErrItemValue},
			{m.key, m.value + 1, api.ErrItemValue},
			{1, 1 << 16, api.ErrItemValue},
			{0, m.value + 1, api.ErrItemKey},
			{m.key + 1, m.value + 1, api.ErrItemKey},
		} {
			if e := item.Why(g, some(x.key), some(x.value)); e != x.want {
				t.Errorf("Why of %d, a key of %d, a value of %d: %d, want %d", g, x.key, x.value, e, x.want)
			}
		}
		if e := item.Why(g, nil, nil); e != api.ErrItemKey {
			t.Errorf("Why of %d, nothing: %d", g, e)
		}
	}
	for _, g := range noGens {
		for _, n := range []int{0, 1, 16, 17, 5000} {
			if e := item.Why(g, some(n), some(n)); e != api.ErrArg {
				t.Errorf("Why of %d, %d bytes each: %d", g, n, e)
			}
		}
	}
}

// An item that has no pages is right just if Why tells nothing against it.
func TestP52RightAsWhy(t *testing.T) {
	for _, g := range slices.Concat(allGens, noGens) {
		for key := range 30 {
			for value := range 1700 {
				it := item.Item{Key: zeros(key), Value: zeros(value)}
				e := item.Why(g, it.Key, it.Value)
				if item.Right(g, it) != (e == api.OK) {
					t.Fatalf("%d, a key of %d, a value of %d: Right is %v, Why %d", g, key, value, item.Right(g, it), e)
				}
			}
		}
	}
}

// zeros is n bytes of a row that nobody writes into.
func zeros(n int) []byte {
	return manyZeros[:n]
}

var manyZeros = make([]byte, 5000)

// An item whose value stands in pages of its own: each edge of its size with each edge of its page.
func TestP52RightFar(t *testing.T) {
	for _, g := range allGens {
		m := limitsOf(g)
		for _, size := range []int{math.MinInt, -33, -1, 0, 1, 31, 32, 33, 34, 399, 400, 401, 799, 800, 801, 1599, 1600, 1601, 1 << 16, math.MaxInt} {
			for _, ref := range []int{math.MinInt, -2, -1, 1, 2, 3, 255, 256, api.MaxPages - 2, api.MaxPages - 1, api.MaxPages, api.MaxPages + 1, 2 * api.MaxPages, 1<<32 + 2, math.MaxInt} {
				it := item.Item{Key: some(m.key), Size: size, Ref: ref}
				want := 33 <= size && size <= m.value && 2 <= ref && ref <= api.MaxPages-1
				if got := item.Right(g, it); got != want {
					t.Errorf("Right(%d, size %d, ref %d) is %v", g, size, ref, got)
				}
			}
		}
	}
}

func TestP52RightRefuses(t *testing.T) {
	for _, g := range allGens {
		m := limitsOf(g)
		near, far := item.Of(some(3), some(5)), item.Item{Key: some(3), Size: 40, Ref: 2}
		for _, it := range []item.Item{near, far, {Key: some(3), Size: 40, Ref: 2, Value: []byte{}}} {
			if !item.Right(g, it) {
				t.Errorf("%d: %v is not right", g, it)
			}
			for _, n := range []int{0, m.key + 1, 300} {
				it.Key = some(n)
				if item.Right(g, it) {
					t.Errorf("%d: with a key of %d, %v is right", g, n, it)
				}
			}
		}
		for _, it := range []item.Item{
			{},
			{Key: some(3), Size: 1},
			{Key: some(3), Size: -1},
			{Key: some(3), Size: 40},
			{Key: some(3), Value: some(5), Size: 5},
			{Key: some(3), Value: some(40), Size: 40},
			{Key: some(3), Value: some(1), Size: 40, Ref: 2},
			{Key: some(3), Value: some(40), Size: 40, Ref: 2},
			{Key: some(3), Value: some(40), Ref: 2},
			{Key: some(3), Ref: 2},
		} {
			if item.Right(g, it) {
				t.Errorf("%d: %v is right", g, it)
			}
		}
	}
	for _, g := range noGens {
		for _, it := range []item.Item{{}, item.Of(some(3), some(5)), {Key: some(3), Size: 40, Ref: 2}} {
			if item.Right(g, it) {
				t.Errorf("%d: %v is right", g, it)
			}
		}
	}
}

func TestP53Room(t *testing.T) {
	for _, x := range []struct {
		it    item.Item
		rooms [3]int
	}{
		{item.Of(some(3), some(40)), [3]int{11, 15, 15}},
		{item.Item{}, [3]int{4, 4, 4}},
		{item.Of(some(1), nil), [3]int{5, 5, 5}},
		{item.Of(some(3), some(5)), [3]int{12, 12, 12}},
		{item.Of(some(16), some(31)), [3]int{51, 51, 51}},
		{item.Of(some(16), some(32)), [3]int{52, 52, 52}},
		{item.Of(some(16), some(33)), [3]int{24, 28, 28}},
		{item.Of(some(24), some(1600)), [3]int{32, 36, 36}},
		{item.Of(some(300), some(9)), [3]int{313, 313, 313}},
		{item.Item{Key: some(3), Size: 100, Ref: 2}, [3]int{11, 15, 15}},
		{item.Item{Key: some(3), Size: 1, Ref: -9}, [3]int{11, 15, 15}},
		{item.Item{Key: some(3), Value: some(9), Size: 100, Ref: 2}, [3]int{11, 15, 15}},
		{item.Item{Key: some(3), Value: some(9), Size: 100}, [3]int{16, 16, 16}},
	} {
		for k, g := range allGens {
			if got := item.Room(g, x.it); got != x.rooms[k] {
				t.Errorf("Room(%d, %v) is %d, want %d", g, x.it, got, x.rooms[k])
			}
		}
		for _, g := range noGens {
			if got := item.Room(g, x.it); got != 0 {
				t.Errorf("Room(%d, %v) is %d", g, x.it, got)
			}
		}
	}
}

func TestP53KidRoom(t *testing.T) {
	for n := range 300 {
		for g, want := range map[int]int{api.G1: n + 5, api.G2: n + 9, api.G3: n + 9} {
			if got := item.KidRoom(g, zeros(n)); got != want {
				t.Errorf("KidRoom(%d, a key of %d) is %d, want %d", g, n, got, want)
			}
		}
		for _, g := range noGens {
			if got := item.KidRoom(g, zeros(n)); got != 0 {
				t.Errorf("KidRoom(%d, a key of %d) is %d", g, n, got)
			}
		}
	}
	if item.KidRoom(api.G1, nil) != 5 || item.KidRoom(api.G3, nil) != 9 {
		t.Error("KidRoom of no key")
	}
}

// The greatest item of each generation, of all that may be, takes at most a quarter of a page; of G3 just that.
func TestP54FourFit(t *testing.T) {
	for _, g := range allGens {
		greatest := 0
		for key := range 30 {
			for size := range 1700 {
				for _, it := range []item.Item{{Key: zeros(key), Value: zeros(size)}, {Key: zeros(key), Size: size, Ref: api.MaxPages - 1}} {
					if item.Right(g, it) {
						greatest = max(greatest, item.Room(g, it))
					}
				}
			}
		}
		if want := limitsOf(g).key + 36; greatest != want {
			t.Errorf("the greatest item of %d takes %d, want %d", g, greatest, want)
		}
		if 4*greatest > item.Cap(g) {
			t.Errorf("four items of %d take %d of %d", g, 4*greatest, item.Cap(g))
		}
	}
	if 4*item.Room(api.G3, item.Of(some(24), some(32))) != item.Cap(api.G3) {
		t.Error("four of the greatest items of G3 do not fill a page")
	}
}

// No call changes what it is given, though there be room behind it.
func TestP5GivenStays(t *testing.T) {
	key, value := some(9), some(50)
	a, b := item.Item{Key: key[:3], Value: value[:40]}, item.Item{Key: key[:3], Value: value[:40], Size: 40, Ref: 2}
	for _, g := range []int{0, api.G1, api.G3} {
		item.Why(g, a.Key, a.Value)
		item.KidRoom(g, a.Key)
		for _, it := range []item.Item{a, b} {
			item.Right(g, it)
			item.Room(g, it)
			item.Far(it)
			item.Long(it)
			item.Same(it, a)
			item.Compare(it.Key, it.Value)
			item.Of(it.Key, it.Value)
		}
	}
	if !bytes.Equal(key, some(9)) || !bytes.Equal(value, some(50)) {
		t.Errorf("what was given is changed: %v, %v", key, value)
	}
}
