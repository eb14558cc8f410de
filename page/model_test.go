package page_test

import (
	"bytes"
	"encoding/binary"
	"hash/crc32"
	"math/rand/v2"

	"regauge/api"
	"regauge/item"
	"regauge/node"
)

// limits is what a generation has, as the chapters tell it.
type limits struct{ key, value, id, head, room int }

func limitsOf(g int) limits {
	switch g {
	case api.G1:
		return limits{16, 400, 4, 8, 248}
	case api.G2:
		return limits{20, 800, 8, 16, 240}
	case api.G3:
		return limits{24, 1600, 8, 16, 240}
	}
	return limits{}
}

// number is n in so many bytes, the lowest one first.
func number(n, width int) []byte {
	return binary.LittleEndian.AppendUint64(nil, uint64(n))[:width]
}

// reseal puts the sum that a page of G2 or G3 bears into its place, by the library's own reckoning.
func reseal(b []byte) []byte {
	b = bytes.Clone(b)
	if b[1] != api.G1 {
		t := crc32.MakeTable(crc32.Castagnoli)
		sum := crc32.Update(crc32.Checksum(b[:4], t), t, b[8:])
		binary.LittleEndian.PutUint32(b[4:], sum)
	}
	return b
}

// plainPage is a page as the chapter tells it. (Its body is not longer than it may be.)
func plainPage(kind, g, count, next int, body []byte) []byte {
	b := []byte{byte(kind), byte(g)}
	b = append(b, number(count, 2)...)
	if g == api.G1 {
		b = append(b, number(next, 4)...)
	} else {
		b = append(b, 0, 0, 0, 0)
		b = append(b, number(next, 8)...)
	}
	b = append(b, body...)
	return reseal(append(b, make([]byte, 256-len(b))...))
}

// plainEncode is the page of a node that may be.
func plainEncode(g int, n node.Node) []byte {
	var body []byte
	if !n.Leaf {
		for _, k := range n.Kids {
			body = append(body, byte(len(k.Key)))
			body = append(body, k.Key...)
			body = append(body, number(k.Ref, limitsOf(g).id)...)
		}
		return plainPage('B', g, len(n.Kids), 0, body)
	}
	for _, it := range n.Items {
		if it.Ref == 0 {
			body = append(body, byte(len(it.Key)), 0)
			body = append(body, number(len(it.Value), 2)...)
			body = append(body, it.Key...)
			body = append(body, it.Value...)
		} else {
			body = append(body, byte(len(it.Key)), 1)
			body = append(body, number(it.Size, 2)...)
			body = append(body, it.Key...)
			body = append(body, number(it.Ref, limitsOf(g).id)...)
		}
	}
	return plainPage('L', g, len(n.Items), 0, body)
}

// plainDecode asks of each number on a page, one by one, whether it may be there.
func plainDecode(b []byte) (int, node.Node, api.Errno) {
	if len(b) != 256 {
		return 0, node.Node{}, api.ErrPageForm
	}
	if !bytes.Contains([]byte("LBOF"), b[:1]) || b[1] < 1 || b[1] > 3 {
		return 0, node.Node{}, api.ErrPageKind
	}
	g := int(b[1])
	if g != api.G1 && b[15] > 127 {
		return 0, node.Node{}, api.ErrPageForm
	}
	if b[0] == 'O' || b[0] == 'F' {
		return 0, node.Node{}, api.ErrPageKind
	}
	if !bytes.Equal(b, reseal(b)) {
		return 0, node.Node{}, api.ErrPageSum
	}
	n, may := plainNode(g, b)
	if !may {
		return 0, node.Node{}, api.ErrPageForm
	}
	return g, n, api.OK
}

func plainNode(g int, b []byte) (node.Node, bool) {
	has := limitsOf(g)
	next := b[has.head-has.id : has.head]
	if !isZero(next) {
		return node.Node{}, false
	}
	n := node.Node{Leaf: b[0] == 'L'}
	left := b[has.head:]
	may := true
	for range int(b[2]) + 256*int(b[3]) {
		if n.Leaf {
			var it item.Item
			if it, left, may = plainItem(has, left); may {
				n.Items = append(n.Items, it)
			}
		} else {
			var k node.Kid
			if k, left, may = plainKid(has, left, len(n.Kids) == 0); may {
				n.Kids = append(n.Kids, k)
			}
		}
		if !may {
			return node.Node{}, false
		}
	}
	for k := 1; k < len(n.Items); k++ {
		may = may && string(n.Items[k-1].Key) < string(n.Items[k].Key)
	}
	for k := 1; k < len(n.Kids); k++ {
		may = may && string(n.Kids[k-1].Key) < string(n.Kids[k].Key)
	}
	return n, may && isZero(left) && (n.Leaf || len(n.Kids) > 0)
}

func plainItem(has limits, b []byte) (item.Item, []byte, bool) {
	if len(b) < 4 {
		return item.Item{}, nil, false
	}
	long, away, size := int(b[0]), int(b[1]), int(b[2])+256*int(b[3])
	b = b[4:]
	if long < 1 || long > has.key || long > len(b) || away > 1 {
		return item.Item{}, nil, false
	}
	it := item.Item{Key: b[:long]}
	b = b[long:]
	if away == 0 {
		if size > 32 || size > len(b) {
			return item.Item{}, nil, false
		}
		it.Value = b[:size]
		return it, b[size:], true
	}
	if size <= 32 || size > has.value || len(b) < has.id {
		return item.Item{}, nil, false
	}
	ref, may := plainRef(b[:has.id])
	it.Size, it.Ref = size, ref
	return it, b[has.id:], may
}

func plainKid(has limits, b []byte, first bool) (node.Kid, []byte, bool) {
	if len(b) < 1 {
		return node.Kid{}, nil, false
	}
	long := int(b[0])
	b = b[1:]
	if long > has.key || (long == 0) != first || len(b) < long+has.id {
		return node.Kid{}, nil, false
	}
	ref, may := plainRef(b[long : long+has.id])
	return node.Kid{Key: b[:long], Ref: ref}, b[long+has.id:], may
}

// plainRef is a page's number, which has just two bytes that may not be 0.
func plainRef(b []byte) (int, bool) {
	ref := int(b[0]) + 256*int(b[1])
	return ref, isZero(b[2:]) && ref >= 2 && ref < 1<<14
}

func isZero(b []byte) bool {
	for _, x := range b {
		if x != 0 {
			return false
		}
	}
	return true
}

// equal holds nodes against each other, field by field.
func equal(a, b node.Node) bool {
	if a.Leaf != b.Leaf || len(a.Items) != len(b.Items) || len(a.Kids) != len(b.Kids) {
		return false
	}
	for k, x := range a.Items {
		y := b.Items[k]
		if string(x.Key) != string(y.Key) || string(x.Value) != string(y.Value) || x.Size != y.Size || x.Ref != y.Ref {
			return false
		}
	}
	for k, x := range a.Kids {
		if string(x.Key) != string(b.Kids[k].Key) || x.Ref != b.Kids[k].Ref {
			return false
		}
	}
	return true
}

// isNone tells whether a node is the zero one.
func isNone(n node.Node) bool {
	return !n.Leaf && len(n.Items) == 0 && len(n.Kids) == 0
}

// copyOf is a node that shares nothing.
func copyOf(n node.Node) node.Node {
	c := node.Node{Leaf: n.Leaf}
	for _, it := range n.Items {
		c.Items = append(c.Items, item.Item{Key: bytes.Clone(it.Key), Value: bytes.Clone(it.Value), Size: it.Size, Ref: it.Ref})
	}
	for _, k := range n.Kids {
		c.Kids = append(c.Kids, node.Kid{Key: bytes.Clone(k.Key), Ref: k.Ref})
	}
	return c
}

// scribble writes into all bytes of a node.
func scribble(n node.Node) {
	spoil := func(b []byte) {
		for k := range b {
			b[k] ^= 0xff
		}
	}
	for k, it := range n.Items {
		spoil(it.Key)
		spoil(it.Value)
		n.Items[k] = item.Item{Size: -1, Ref: -1}
	}
	for k, kid := range n.Kids {
		spoil(kid.Key)
		n.Kids[k] = node.Kid{Ref: -1}
	}
}

// dice are always the same row of numbers.
func dice(seed uint64) *rand.Rand {
	return rand.New(rand.NewPCG(seed, 7))
}

func someBytes(r *rand.Rand, n int) []byte {
	b := make([]byte, n)
	for k := range b {
		b[k] = byte(r.Uint32())
	}
	return b
}

func someRef(r *rand.Rand) int {
	if r.IntN(4) == 0 {
		return []int{2, 255, 256, 1<<14 - 1}[r.IntN(4)]
	}
	return 2 + r.IntN(1<<14-2)
}

// someNode is a node that may be in g: things are laid in as long as the next one has room too.
func someNode(r *rand.Rand, g int) node.Node {
	has := limitsOf(g)
	most := 1 + r.IntN(40)
	if r.IntN(2) == 0 {
		n := node.Node{Kids: []node.Kid{{Ref: someRef(r)}}}
		for range most {
			more := node.Swap(n, len(n.Kids), 0, []node.Kid{{Key: someBytes(r, 1+r.IntN(has.key)), Ref: someRef(r)}})
			if k := len(more.Kids) - 1; k > 1 && string(more.Kids[k-1].Key) >= string(more.Kids[k].Key) {
				continue
			}
			if !node.Right(g, more) {
				return n
			}
			n = more
		}
		return n
	}
	n := node.Node{Leaf: true}
	for range most {
		it := item.Item{Key: someBytes(r, 1+r.IntN(has.key))}
		if r.IntN(3) == 0 {
			it.Size, it.Ref = 33+r.IntN(has.value-32), someRef(r)
		} else {
			it.Value = someBytes(r, r.IntN(33))
		}
		more := node.With(n, it)
		if !node.Right(g, more) {
			return n
		}
		n = more
	}
	return n
}
