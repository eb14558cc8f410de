package page_test

import (
	"bytes"
	"math"
	"slices"
	"testing"

	"regauge/api"
	"regauge/crc"
	"regauge/item"
	"regauge/node"
	"regauge/page"
)

var allGens = []int{api.G1, api.G2, api.G3}

// noGens are numbers that are of no generation.
var noGens = []int{0, -1, -2, 4, 5, 255, 256 + 1, 1 << 32, 1<<32 + 1, math.MinInt, math.MaxInt}

var allKinds = []int{'L', 'B', 'O', 'F'}

// noKinds are numbers that are of no kind of page.
var noKinds = []int{0, 1, -1, 'l', 'b', 'K', 'M', 'P', 'G', 255, 256 + 'L', 1<<32 + 'O', -'L', math.MinInt, math.MaxInt}

// some is n bytes, none of them 0 or like the one ahead.
func some(n int) []byte {
	b := make([]byte, n)
	for k := range b {
		b[k] = byte(7*k%250 + 1)
	}
	return b
}

// near is an item whose value stands in the leaf.
func near(key, value []byte) item.Item {
	return item.Item{Key: key, Value: value}
}

func away(key []byte, size, ref int) item.Item {
	return item.Item{Key: key, Size: size, Ref: ref}
}

func leafOf(items ...item.Item) node.Node {
	return node.Node{Leaf: true, Items: items}
}

func branchOf(kids ...node.Kid) node.Node {
	return node.Node{Kids: kids}
}

func kid(key string, ref int) node.Kid {
	return node.Kid{Key: []byte(key), Ref: ref}
}

// full are a leaf and a branch that leave no byte of a page of g.
func full(g int) []node.Node {
	has := limitsOf(g)
	leaf := node.Node{Leaf: true}
	left := has.room
	for k := 0; left > 0; k++ {
		value := min(32, left-5)
		if rest := left - 5 - value; rest > 0 && rest < 5 {
			value -= 5
		}
		leaf.Items = append(leaf.Items, near([]byte{byte(k)}, some(value)))
		left -= 5 + value
	}
	branch := branchOf(node.Kid{Ref: 2})
	left = has.room - 1 - has.id
	for k := 1; left > 0; k++ {
		long := min(2, left-1-has.id)
		if rest := left - 1 - has.id - long; rest > 0 && rest < 2+has.id {
			long += rest
		}
		key := append([]byte{byte(k)}, some(long-1)...)
		branch.Kids = append(branch.Kids, node.Kid{Key: key, Ref: 300 + k})
		left -= 1 + long + has.id
	}
	return []node.Node{leaf, branch}
}

// nodes are some that may be in g: the edges of all that stands on a page.
func nodes(g int) []node.Node {
	has := limitsOf(g)
	l := []node.Node{
		leafOf(),
		leafOf(near([]byte("a"), nil)),
		leafOf(near([]byte("a"), []byte("b"))),
		leafOf(near([]byte{0}, []byte{0}), near([]byte{0, 0}, []byte{0, 0}), near([]byte{255}, nil)),
		leafOf(near(some(has.key), some(32))),
		leafOf(away([]byte("a"), 33, 2), away([]byte("b"), 255, 255), away([]byte("c"), 256, 256), away([]byte("d"), has.value, 1<<14-1)),
		leafOf(away(some(has.key), has.value, 258), near(append(some(1), 255), some(31))),
		branchOf(node.Kid{Ref: 2}),
		branchOf(kid("", 1<<14-1), kid("a", 2), kid("aa", 255), kid("b", 256)),
		branchOf(kid("", 5), kid("\x00", 5), kid("\x00\x00", 5), kid("\xff", 5)),
		branchOf(kid("", 5), node.Kid{Key: some(has.key), Ref: 258}),
	}
	return append(l, full(g)...)
}

// Each kind and generation; of as many bytes as the head has, or more; whatever stands behind the head, and as the sum.
func TestP71HeadOf(t *testing.T) {
	for _, kind := range allKinds {
		for _, g := range allGens {
			for _, count := range []int{0, 1, 255, 256, 513, 65535} {
				for _, next := range []int{0, 1, 255, 256, 0x01020304, 1<<32 - 1, 1 << 32, 0x0102030405060708, math.MaxInt} {
					if g == api.G1 && next > 1<<32-1 {
						continue
					}
					b := plainPage(kind, g, count, next, some(240))
					want := page.Head{Kind: kind, Gen: g, Count: count, Next: next}
					for _, x := range [][]byte{b, b[:limitsOf(g).head], b[:limitsOf(g).head+1], b[:255], append(bytes.Clone(b), some(1000)...)} {
						was := bytes.Clone(x)
						if h, e := page.HeadOf(x); h != want || e != api.OK {
							t.Fatalf("%v of %d bytes is told as %v, %d", want, len(x), h, e)
						}
						if !bytes.Equal(x, was) {
							t.Fatal("HeadOf changes what it is given")
						}
					}
					if g != api.G1 {
						copy(b[4:8], []byte{255, 255, 255, 255})
						if h, e := page.HeadOf(b); h != want || e != api.OK {
							t.Fatalf("the sum is looked at: %v, %d", h, e)
						}
					}
				}
			}
		}
	}
}

func TestP71HeadOfKinds(t *testing.T) {
	for first := range 256 {
		for second := range 256 {
			b := append([]byte{byte(first), byte(second)}, make([]byte, 254)...)
			h, e := page.HeadOf(b)
			if slices.Contains(allKinds, first) && second >= 1 && second <= 3 {
				if e != api.OK || h != (page.Head{Kind: first, Gen: second}) {
					t.Errorf("%d %d: %v, %d", first, second, h, e)
				}
			} else if e != api.ErrPageKind || h != (page.Head{}) {
				t.Errorf("%d %d is not refused: %v, %d", first, second, h, e)
			}
		}
	}
}

func TestP71HeadOfShort(t *testing.T) {
	for _, kind := range allKinds {
		for _, g := range allGens {
			b := plainPage(kind, g, 1, 2, nil)
			for long := range limitsOf(g).head {
				want := api.ErrPageForm
				if long < 4 {
					want = api.ErrPageKind
				}
				if h, e := page.HeadOf(b[:long]); h != (page.Head{}) || e != want {
					t.Errorf("%d bytes of G%d: %v, %d", long, g, h, e)
				}
			}
		}
	}
	if h, e := page.HeadOf(nil); h != (page.Head{}) || e != api.ErrPageKind {
		t.Errorf("no bytes: %v, %d", h, e)
	}
	for _, b := range [][]byte{{'X', 1, 0, 0}, {'L', 4, 0, 0}, {'L', 0, 0, 0, 0}} {
		if _, e := page.HeadOf(b); e != api.ErrPageKind {
			t.Errorf("%v: %d is told ahead of the kind", b, e)
		}
	}
}

// Next has no place below 2^63, if its highest bit is 1: whatever the others are.
func TestP71HeadOfNext(t *testing.T) {
	for _, g := range []int{api.G2, api.G3} {
		for _, low := range []byte{0, 1, 255} {
			for high := range 256 {
				b := plainPage('F', g, 1, 0, nil)
				for k := 8; k < 15; k++ {
					b[k] = low
				}
				b[15] = byte(high)
				_, e := page.HeadOf(b)
				if want := high < 128; (e == api.OK) != want || !want && e != api.ErrPageForm {
					t.Errorf("Next of %d and %d: %d", low, high, e)
				}
			}
		}
	}
	b := []byte{'F', 1, 0, 0, 255, 255, 255, 255}
	if h, e := page.HeadOf(b); h.Next != 1<<32-1 || e != api.OK {
		t.Errorf("the greatest Next of G1: %v, %d", h, e)
	}
}

func TestP71Wrap(t *testing.T) {
	for _, kind := range allKinds {
		for _, g := range allGens {
			most := math.MaxInt
			if g == api.G1 {
				most = 1<<32 - 1
			}
			for _, count := range []int{0, 1, 255, 256, 513, 65535} {
				for _, next := range []int{0, 1, 255, 256, 0x01020304, most - 1, most} {
					for _, long := range []int{0, 1, 100, limitsOf(g).room - 1, limitsOf(g).room} {
						h := page.Head{Kind: kind, Gen: g, Count: count, Next: next}
						b, e := page.Wrap(h, some(long))
						if want := plainPage(kind, g, count, next, some(long)); e != api.OK || !bytes.Equal(b, want) {
							t.Fatalf("%v, %d bytes: %x, %d", h, long, b, e)
						}
						if g != api.G1 && !crc.Sealed(b, 4) {
							t.Fatalf("%v is not sealed", h)
						}
					}
				}
			}
		}
	}
}

func TestP71WrapRefuses(t *testing.T) {
	refused := func(h page.Head, long int, want api.Errno) {
		t.Helper()
		if b, e := page.Wrap(h, make([]byte, long)); len(b) != 0 || e != want {
			t.Errorf("%v, %d bytes: %d bytes, %d, want %d", h, long, len(b), e, want)
		}
	}
	for _, kind := range noKinds {
		refused(page.Head{Kind: kind, Gen: api.G2}, 0, api.ErrPageKind)
		refused(page.Head{Kind: kind, Gen: api.G2, Count: -1}, 300, api.ErrPageKind)
	}
	for _, g := range noGens {
		refused(page.Head{Kind: page.Free, Gen: g}, 0, api.ErrPageKind)
		refused(page.Head{Kind: page.Free, Gen: g, Next: -1}, 300, api.ErrPageKind)
	}
	for _, kind := range allKinds {
		for _, g := range allGens {
			for _, n := range []int{-1, -2, 65536, 65537, 1 << 32, math.MinInt, math.MaxInt} {
				refused(page.Head{Kind: kind, Gen: g, Count: n}, 0, api.ErrPageFits)
			}
			for _, n := range []int{-1, -1 << 40, math.MinInt} {
				refused(page.Head{Kind: kind, Gen: g, Next: n}, 0, api.ErrPageFits)
			}
			for _, long := range []int{limitsOf(g).room + 1, 256, 257, 70000} {
				refused(page.Head{Kind: kind, Gen: g}, long, api.ErrPageFits)
			}
		}
		for _, n := range []int{1 << 32, 1<<32 + 1, math.MaxInt} {
			refused(page.Head{Kind: kind, Gen: api.G1, Next: n}, 0, api.ErrPageFits)
		}
	}
}

func TestP71WrapSharesNothing(t *testing.T) {
	for _, g := range allGens {
		body := some(256)[:limitsOf(g).room]
		was := bytes.Clone(body[:256])
		b, _ := page.Wrap(page.Head{Kind: page.Over, Gen: g, Count: 7}, body)
		want := bytes.Clone(b)
		if !bytes.Equal(body[:256], was) {
			t.Error("Wrap changes what it is given")
		}
		clear(body)
		if !bytes.Equal(b, want) {
			t.Error("a page changes with the body that it was made of")
		}
		clear(b)
		if again, _ := page.Wrap(page.Head{Kind: page.Over, Gen: g, Count: 7}, was[:limitsOf(g).room]); !bytes.Equal(again, want) {
			t.Error("a page changes with another one")
		}
	}
}

func TestP71Body(t *testing.T) {
	for _, kind := range allKinds {
		for _, g := range allGens {
			has := limitsOf(g)
			b := plainPage(kind, g, 65535, 1<<31, some(has.room))
			was := bytes.Clone(b)
			got := page.Body(b)
			if !bytes.Equal(got, some(has.room)) {
				t.Errorf("%c of G%d: %x", kind, g, got)
			}
			clear(got)
			if !bytes.Equal(b, was) {
				t.Error("a page changes with its body")
			}
			if g != api.G1 {
				copy(b[4:8], []byte{9, 9, 9, 9})
				if !bytes.Equal(page.Body(b), some(has.room)) {
					t.Error("the sum is looked at")
				}
			}
			for _, x := range [][]byte{b[:255], b[:has.head], append(bytes.Clone(b), 0), append(bytes.Clone(b), b...)} {
				if got := page.Body(x); len(got) != 0 {
					t.Errorf("%d bytes have a body: %x", len(x), got)
				}
			}
			if got := page.Body(plainPage(kind, g, 0, 0, nil)); !bytes.Equal(got, make([]byte, has.room)) {
				t.Errorf("a body of zeros: %x", got)
			}
		}
	}
}

func TestP71BodyOfNone(t *testing.T) {
	for i, change := range []func(b []byte){
		func(b []byte) { b[0] = 'X' },
		func(b []byte) { b[0] = 0 },
		func(b []byte) { b[1] = 0 },
		func(b []byte) { b[1] = 4 },
		func(b []byte) { b[15] = 128 },
		func(b []byte) { clear(b) },
	} {
		b := plainPage('O', api.G2, 1, 1, some(240))
		change(b)
		if got := page.Body(b); len(got) != 0 {
			t.Errorf("%d: %x", i, got)
		}
	}
	if got := page.Body(nil); len(got) != 0 {
		t.Errorf("no bytes have a body: %x", got)
	}
}

func TestP72Example(t *testing.T) {
	want := append([]byte{0x4c, 1, 1, 0, 0, 0, 0, 0, 1, 0, 1, 0, 0x61, 0x62}, make([]byte, 242)...)
	if b, e := page.Encode(api.G1, leafOf(item.Of([]byte("a"), []byte("b")))); e != api.OK || !bytes.Equal(b, want) {
		t.Errorf("%x, %d", b, e)
	}
}

// The bytes are written out where they stand, of each kind and width.
func TestP72Bytes(t *testing.T) {
	leaf := leafOf(near([]byte("a"), nil), away([]byte("bcd"), 300, 258), near([]byte("e"), []byte("fg")))
	branch := branchOf(node.Kid{Ref: 1<<14 - 1}, kid("xy", 2))
	for i, x := range []struct {
		g    int
		n    node.Node
		head []byte
		body []byte
	}{
		{1, leaf, []byte{'L', 1, 3, 0, 0, 0, 0, 0}, []byte{1, 0, 0, 0, 'a', 3, 1, 44, 1, 'b', 'c', 'd', 2, 1, 0, 0, 1, 0, 2, 0, 'e', 'f', 'g'}},
		{2, leaf, []byte{'L', 2, 3, 0}, []byte{1, 0, 0, 0, 'a', 3, 1, 44, 1, 'b', 'c', 'd', 2, 1, 0, 0, 0, 0, 0, 0, 1, 0, 2, 0, 'e', 'f', 'g'}},
		{3, leaf, []byte{'L', 3, 3, 0}, []byte{1, 0, 0, 0, 'a', 3, 1, 44, 1, 'b', 'c', 'd', 2, 1, 0, 0, 0, 0, 0, 0, 1, 0, 2, 0, 'e', 'f', 'g'}},
		{1, branch, []byte{'B', 1, 2, 0, 0, 0, 0, 0}, []byte{0, 255, 63, 0, 0, 2, 'x', 'y', 2, 0, 0, 0}},
		{2, branch, []byte{'B', 2, 2, 0}, []byte{0, 255, 63, 0, 0, 0, 0, 0, 0, 2, 'x', 'y', 2, 0, 0, 0, 0, 0, 0, 0}},
		{3, branch, []byte{'B', 3, 2, 0}, []byte{0, 255, 63, 0, 0, 0, 0, 0, 0, 2, 'x', 'y', 2, 0, 0, 0, 0, 0, 0, 0}},
	} {
		want := make([]byte, 256)
		copy(want, x.head)
		copy(want[limitsOf(x.g).head:], x.body)
		if b, e := page.Encode(x.g, x.n); e != api.OK || !bytes.Equal(b, reseal(want)) {
			t.Errorf("%d: %x, %d", i, b, e)
		}
	}
}

func TestP72Encode(t *testing.T) {
	for _, g := range allGens {
		for i, n := range nodes(g) {
			was := copyOf(n)
			b, e := page.Encode(g, n)
			if want := plainEncode(g, n); e != api.OK || !bytes.Equal(b, want) {
				t.Errorf("%d of G%d: %x, %d, want %x", i, g, b, e, want)
			}
			if !equal(n, was) {
				t.Errorf("%d of G%d: Encode changes what it is given", i, g)
			}
			scribble(n)
			if want := plainEncode(g, was); !bytes.Equal(b, want) {
				t.Errorf("%d of G%d: a page changes with the node that it was made of", i, g)
			}
		}
	}
}

// Of nodes that leave no byte of a page one of their things is made a byte longer.
func TestP72Full(t *testing.T) {
	for _, g := range allGens {
		for _, n := range full(g) {
			if room := node.Room(g, n); room != limitsOf(g).room {
				t.Fatalf("the node of G%d has %d bytes", g, room)
			}
			b, e := page.Encode(g, n)
			if e != api.OK || b[255] == 0 && n.Leaf {
				t.Errorf("a node that fits is not written whole: %x, %d", b, e)
			}
			more := copyOf(n)
			if n.Leaf {
				last := len(more.Items) - 1
				more.Items[last].Key = append(more.Items[last].Key, 1)
			} else {
				more.Kids[1].Key = append(more.Kids[1].Key, 1)
			}
			if b, e := page.Encode(g, more); len(b) != 0 || e != api.ErrPageFits {
				t.Errorf("a byte too much: %x, %d", b, e)
			}
		}
	}
}

func TestP72Refuses(t *testing.T) {
	for _, g := range allGens {
		has := limitsOf(g)
		good := leafOf(near([]byte("a"), []byte("b")))
		for i, n := range []node.Node{
			{},
			{Leaf: true, Kids: []node.Kid{{Ref: 2}}},
			{Leaf: true, Items: good.Items, Kids: []node.Kid{{Ref: 2}}},
			{Items: good.Items, Kids: []node.Kid{{Ref: 2}}},
			{Items: good.Items},
			leafOf(near(nil, []byte("b"))),
			leafOf(near(some(has.key+1), nil)),
			leafOf(near([]byte("a"), some(33))),
			leafOf(near([]byte("a"), some(has.value))),
			leafOf(near([]byte("a"), some(has.value+1))),
			leafOf(near([]byte("a"), nil), near([]byte("b"), nil), near([]byte("c"), some(33))),
			leafOf(near([]byte("a"), some(33)), near([]byte("b"), nil)),
			leafOf(near([]byte("b"), nil), near([]byte("a"), nil)),
			leafOf(near([]byte("a"), nil), near([]byte("a"), nil)),
			leafOf(item.Item{Key: []byte("a"), Size: 1}),
			leafOf(item.Item{Key: []byte("a"), Size: 40}),
			leafOf(item.Item{Key: []byte("a"), Value: []byte("b"), Size: 40, Ref: 5}),
			leafOf(away([]byte("a"), 32, 2)),
			leafOf(away([]byte("a"), 0, 2)),
			leafOf(away([]byte("a"), -1, 2)),
			leafOf(away([]byte("a"), has.value+1, 2)),
			leafOf(away([]byte("a"), 65536+33, 2)),
			leafOf(away([]byte("a"), 33, 1)),
			leafOf(away([]byte("a"), 33, -1)),
			leafOf(away([]byte("a"), 33, 1<<14)),
			leafOf(away([]byte("a"), 33, 1<<32+2)),
			branchOf(kid("", 1)),
			branchOf(kid("", 0)),
			branchOf(kid("", -1)),
			branchOf(kid("", 1<<14)),
			branchOf(kid("", 1<<32+2)),
			branchOf(kid("a", 2)),
			branchOf(kid("", 2), kid("", 3)),
			branchOf(kid("", 2), kid("b", 3), kid("a", 4)),
			branchOf(kid("", 2), kid("a", 3), kid("a", 4)),
			branchOf(kid("", 2), kid("a", 1<<14)),
			branchOf(kid("", 2), node.Kid{Key: some(has.key + 1), Ref: 3}),
		} {
			if b, e := page.Encode(g, n); len(b) != 0 || e != api.ErrPageFits {
				t.Errorf("%d of G%d: %x, %d", i, g, b, e)
			}
		}
	}
	for _, g := range noGens {
		for _, n := range []node.Node{{}, leafOf(), leafOf(near([]byte("a"), nil)), branchOf(kid("", 2))} {
			if b, e := page.Encode(g, n); len(b) != 0 || e != api.ErrPageFits {
				t.Errorf("%d is no generation: %x, %d", g, b, e)
			}
		}
	}
}

// What may be in a greater generation alone is refused in those below.
func TestP72Generations(t *testing.T) {
	for _, g := range allGens {
		has := limitsOf(g)
		for i, n := range []node.Node{
			leafOf(near(some(has.key), nil)),
			leafOf(away([]byte("a"), has.value, 2)),
			branchOf(kid("", 2), node.Kid{Key: some(has.key), Ref: 3}),
		} {
			for _, in := range allGens {
				b, e := page.Encode(in, n)
				if in >= g && (e != api.OK || len(b) != 256) || in < g && (e != api.ErrPageFits || len(b) != 0) {
					t.Errorf("%d of G%d in G%d: %x, %d", i, g, in, b, e)
				}
			}
		}
	}
}

// decodes tells whether Decode tells just what the plain reading does, and keeps to what it was given.
func decodes(t *testing.T, b []byte) {
	t.Helper()
	was := bytes.Clone(b)
	g, n, e := page.Decode(b)
	wantG, wantN, wantE := plainDecode(was)
	if g != wantG || e != wantE || !equal(n, wantN) {
		t.Fatalf("%x: %d, %v, %d, want %d, %v, %d", was, g, n, e, wantG, wantN, wantE)
	}
	if e != api.OK && !isNone(n) {
		t.Fatalf("%x: beside error %d there is a node: %v", was, e, n)
	}
	if !bytes.Equal(b, was) {
		t.Fatalf("%x: Decode changes what it is given", was)
	}
	if e != api.OK {
		return
	}
	if again, e := page.Encode(g, n); e != api.OK || !bytes.Equal(again, b) {
		t.Fatalf("%x: another page is decoded as the same: %x, %d", b, again, e)
	}
}

func TestP73Decode(t *testing.T) {
	for _, g := range allGens {
		for i, n := range nodes(g) {
			b := plainEncode(g, n)
			got, m, e := page.Decode(b)
			if got != g || e != api.OK || !equal(m, n) {
				t.Errorf("%d of G%d: %d, %v, %d", i, g, got, m, e)
			}
			was := copyOf(m)
			clear(b)
			if !equal(m, was) {
				t.Errorf("%d of G%d: a node changes with the page that it was read of", i, g)
			}
		}
	}
}

// Nothing of a node that was read is shared by two of its things: each has room of its own to be written into, or grown.
func TestP73SharesNothing(t *testing.T) {
	for _, g := range allGens {
		for _, n := range nodes(g) {
			_, m, _ := page.Decode(plainEncode(g, n))
			for k := range m.Items {
				_ = append(m.Items[k].Key, some(40)...)
				_ = append(m.Items[k].Value, some(40)...)
			}
			for k := range m.Kids {
				_ = append(m.Kids[k].Key, some(40)...)
			}
			if !equal(m, n) {
				t.Errorf("%v of G%d changes as its parts grow: %v", n, g, m)
			}
		}
	}
}

// Each of these is wrong in one way: the error is that of the first way of the row.
func TestP73Refuses(t *testing.T) {
	leaf := func(g int, count, next int, body ...byte) []byte { return plainPage('L', g, count, next, body) }
	branch := func(g int, count, next int, body ...byte) []byte { return plainPage('B', g, count, next, body) }
	for i, x := range []struct {
		b    []byte
		want api.Errno
	}{
		{nil, api.ErrPageForm},
		{[]byte("XY"), api.ErrPageForm},
		{leaf(1, 0, 0)[:255], api.ErrPageForm},
		{append(leaf(1, 0, 0), 0), api.ErrPageForm},
		{append(plainPage('O', 1, 0, 0, nil), 0), api.ErrPageForm},
		{make([]byte, 256), api.ErrPageKind},
		{plainPage('X', 1, 0, 0, nil), api.ErrPageKind},
		{plainPage('O', 1, 0, 0, nil), api.ErrPageKind},
		{plainPage('F', 3, 0, 0, nil), api.ErrPageKind},
		{plainPage('O', 2, 0, 1<<62, nil), api.ErrPageKind},
		{plainPage('O', 2, 0, -1, nil), api.ErrPageForm}, // of HeadOf, ahead of the kind
		{leaf(2, 0, -1), api.ErrPageForm},
		{leaf(2, 0, math.MinInt), api.ErrPageForm},
		{leaf(1, 0, 1), api.ErrPageForm},
		{leaf(1, 0, 1<<31), api.ErrPageForm},
		{leaf(2, 0, 1), api.ErrPageForm},
		{leaf(3, 0, 1<<62), api.ErrPageForm},
		{leaf(1, 65535, 0), api.ErrPageForm},
		{leaf(1, 1, 0), api.ErrPageForm},
		{leaf(1, 0, 0, 1), api.ErrPageForm},
		{leaf(1, 1, 0, 1, 0, 0, 0, 'a', 1), api.ErrPageForm},
		{leaf(1, 2, 0, 1, 0, 0, 0, 'a'), api.ErrPageForm},
		{leaf(1, 1, 0, 0, 0, 1, 0, 'a'), api.ErrPageForm},
		{leaf(1, 2, 0, 1, 0, 0, 0, 'b', 1, 0, 0, 0, 'a'), api.ErrPageForm},
		{leaf(1, 2, 0, 1, 0, 0, 0, 'a', 1, 0, 0, 0, 'a'), api.ErrPageForm},
		{leaf(1, 1, 0, append([]byte{17, 0, 0, 0}, some(17)...)...), api.ErrPageForm},
		{leaf(1, 1, 0, append([]byte{1, 0, 33, 0}, some(34)...)...), api.ErrPageForm},
		{leaf(1, 1, 0, append([]byte{1, 0, 0, 255}, some(34)...)...), api.ErrPageForm},
		{leaf(1, 1, 0, 1, 1, 33, 0, 'a', 2, 0, 0, 0), api.OK},
		{leaf(1, 1, 0, 1, 2, 33, 0, 'a', 2, 0, 0, 0), api.ErrPageForm},
		{leaf(1, 1, 0, 1, 255, 33, 0, 'a', 2, 0, 0, 0), api.ErrPageForm},
		{leaf(1, 1, 0, 1, 1, 32, 0, 'a', 2, 0, 0, 0), api.ErrPageForm},
		{leaf(1, 1, 0, 1, 1, 33, 0, 'a', 1, 0, 0, 0), api.ErrPageForm},
		{leaf(1, 1, 0, 1, 1, 33, 0, 'a', 0, 0, 0, 0), api.ErrPageForm},
		{leaf(1, 1, 0, 1, 1, 0, 0, 'a', 0, 0, 0, 0), api.ErrPageForm},
		{leaf(1, 1, 0, 1, 2, 0, 0, 'a', 0, 0, 0, 0), api.ErrPageForm},
		{leaf(1, 1, 0, 1, 1, 33, 0, 'a', 0, 64, 0, 0), api.ErrPageForm},
		{leaf(1, 1, 0, 1, 1, 33, 0, 'a', 2, 0, 1, 0), api.ErrPageForm},
		{leaf(1, 1, 0, 1, 1, 144, 1, 'a', 2, 0, 0, 0), api.OK},
		{leaf(1, 1, 0, 1, 1, 145, 1, 'a', 2, 0, 0, 0), api.ErrPageForm},
		{leaf(2, 1, 0, 1, 1, 32, 3, 'a', 2, 0, 0, 0, 0, 0, 0, 0), api.OK},
		{leaf(2, 1, 0, 1, 1, 33, 3, 'a', 2, 0, 0, 0, 0, 0, 0, 0), api.ErrPageForm},
		{leaf(2, 1, 0, 1, 1, 33, 0, 'a', 2, 0, 0, 0, 0, 0, 0, 1), api.ErrPageForm},
		{leaf(2, 1, 0, 1, 1, 33, 0, 'a', 2, 0, 0, 0, 0, 0, 0, 128), api.ErrPageForm},
		{leaf(3, 1, 0, 1, 1, 64, 6, 'a', 2, 0, 0, 0, 0, 0, 0, 0), api.OK},
		{leaf(3, 1, 0, 1, 1, 65, 6, 'a', 2, 0, 0, 0, 0, 0, 0, 0), api.ErrPageForm},
		{branch(1, 0, 0), api.ErrPageForm},
		{branch(1, 1, 0), api.ErrPageForm},
		{branch(1, 1, 0, 0, 2), api.OK},
		{branch(1, 1, 1, 0, 2), api.ErrPageForm},
		{branch(1, 65535, 0, 0, 2), api.ErrPageForm},
		{branch(1, 1, 0, 0, 1), api.ErrPageForm},
		{branch(1, 1, 0, 0, 0, 64), api.ErrPageForm},
		{branch(1, 1, 0, 1, 'a', 2), api.ErrPageForm},
		{branch(1, 2, 0, 0, 2, 0, 0, 0, 0, 3), api.ErrPageForm},
		{branch(1, 2, 0, 0, 2, 0, 0, 0, 1, 'a', 3), api.OK},
		{branch(1, 1, 0, 0, 2, 0, 0, 0, 1, 'a', 3), api.ErrPageForm},
		{branch(3, 1, 0, 0, 2, 0, 0, 0, 0, 0, 0, 128), api.ErrPageForm},
		{branch(1, 3, 0, 0, 2, 0, 0, 0, 1, 'b', 3, 0, 0, 0, 1, 'a', 4), api.ErrPageForm},
		{branch(1, 3, 0, 0, 2, 0, 0, 0, 1, 'a', 3, 0, 0, 0, 1, 'a', 4), api.ErrPageForm},
	} {
		if g, n, e := page.Decode(x.b); e != x.want || e != api.OK && (g != 0 || !isNone(n)) {
			t.Errorf("%d: %d, %v, %d, want %d", i, g, n, e, x.want)
		}
		decodes(t, x.b)
	}
}

// The last item, or kid, is cut by the page's end at each of its bytes: what is missing is not taken as zeros.
func TestP73Ends(t *testing.T) {
	for _, g := range allGens {
		for _, n := range full(g) {
			b := plainEncode(g, n)
			head := limitsOf(g).head
			for at := range 60 {
				x := bytes.Clone(b)
				copy(x[head+at:], b[head:])
				copy(x[head:], make([]byte, at))
				decodes(t, reseal(x))
			}
			for _, count := range []byte{1, 255} {
				x := bytes.Clone(b)
				x[2] += count
				decodes(t, reseal(x))
			}
		}
	}
}

// The errors' order: each page is wrong in all ways from one on.
func TestP73Order(t *testing.T) {
	torn := plainPage('L', api.G2, 1, 1, nil)
	torn[100]++
	for _, x := range []struct {
		change func(b []byte) []byte
		want   api.Errno
	}{
		{func(b []byte) []byte { return b }, api.ErrPageSum},
		{func(b []byte) []byte { b[0] = 'F'; return b }, api.ErrPageKind},
		{func(b []byte) []byte { b[0] = 'F'; b[15] = 255; return b }, api.ErrPageForm},
		{func(b []byte) []byte { b[0] = 'X'; b[15] = 255; return b }, api.ErrPageKind},
		{func(b []byte) []byte { b[1] = 9; b[15] = 255; return b }, api.ErrPageKind},
		{func(b []byte) []byte { b[0] = 'X'; return b[:255] }, api.ErrPageForm},
		{func(b []byte) []byte { b[1] = 9; return append(b, 0) }, api.ErrPageForm},
		{func(b []byte) []byte { return b[:3] }, api.ErrPageForm},
	} {
		if _, _, e := page.Decode(x.change(bytes.Clone(torn))); e != x.want {
			t.Errorf("%d, want %d", e, x.want)
		}
	}
}

// One byte of a page is another one, as it is, and sealed again: it is refused, or is the page of just another node.
func TestP73EachByte(t *testing.T) {
	for _, g := range allGens {
		for _, n := range []node.Node{
			leafOf(near([]byte("ab"), []byte("c")), away([]byte("b"), 300, 258), near([]byte("bc"), nil)),
			branchOf(node.Kid{Ref: 258}, kid("ab", 2), kid("b", 700)),
			full(g)[0],
			full(g)[1],
		} {
			b := plainEncode(g, n)
			for at := range b {
				for to := range 256 {
					if at > 80 && to%51 != 0 { // far down all is alike
						continue
					}
					x := bytes.Clone(b)
					x[at] = byte(to)
					decodes(t, x)
					decodes(t, reseal(x))
				}
			}
		}
	}
}

// Pages of any bytes, most of them with a head that may be, and small numbers.
func TestP73AnyBytes(t *testing.T) {
	r := dice(73)
	for range 60000 {
		b := someBytes(r, 256)
		for k := range b {
			if r.IntN(3) > 0 {
				b[k] = byte(r.IntN(4))
			}
		}
		b[0], b[1] = "LB"[r.IntN(2)], byte(1+r.IntN(3))
		clear(b[3:limitsOf(int(b[1])).head])
		clear(b[16+r.IntN(60):])
		decodes(t, reseal(b))
	}
}

func TestP74RoundTrip(t *testing.T) {
	r := dice(74)
	for range 20000 {
		g := allGens[r.IntN(3)]
		n := someNode(r, g)
		b, e := page.Encode(g, n)
		if e != api.OK || !bytes.Equal(b, plainEncode(g, n)) {
			t.Fatalf("%v of G%d: %x, %d", n, g, b, e)
		}
		if got, m, e := page.Decode(b); got != g || e != api.OK || !equal(m, n) {
			t.Fatalf("%v of G%d is decoded as %d, %v, %d", n, g, got, m, e)
		}
	}
}

// With a bit turned a page is decoded as the node no more; of G2 and G3 it is told from all others by its sum.
func TestP74Bits(t *testing.T) {
	r := dice(75)
	for range 30 {
		g := allGens[r.IntN(3)]
		n := someNode(r, g)
		b, _ := page.Encode(g, n)
		for bit := range 8 * len(b) {
			x := bytes.Clone(b)
			x[bit/8] ^= 1 << (bit % 8)
			got, m, e := page.Decode(x)
			if e == api.OK && (got == g && equal(m, n) || g != api.G1) {
				t.Fatalf("bit %d of %x: %d, %v", bit, b, got, m)
			}
			if bit >= 16 && bit != 127 && g != api.G1 && e != api.ErrPageSum {
				t.Fatalf("bit %d of %x: %d", bit, b, e)
			}
		}
	}
}

// The same node has a page in each generation in which it may be: they are told from each other.
func TestP74Generations(t *testing.T) {
	for _, n := range nodes(api.G1)[:6] {
		for _, g := range allGens {
			b, e := page.Encode(g, n)
			got, m, f := page.Decode(b)
			if e != api.OK || f != api.OK || got != g || !equal(m, n) {
				t.Errorf("%v in G%d: %d; %d, %v, %d", n, g, e, got, m, f)
			}
			for _, other := range allGens {
				x := bytes.Clone(b)
				x[1] = byte(other)
				if _, m, e := page.Decode(x); other != g && e == api.OK && equal(m, n) {
					t.Errorf("%v in G%d is decoded in G%d", n, g, other)
				}
			}
		}
	}
}
