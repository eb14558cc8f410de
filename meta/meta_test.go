package meta_test

import (
	"bytes"
	"math"
	"strconv"
	"testing"

	"regauge/api"
	"regauge/meta"
)

var allGens = []int{api.G1, api.G2, api.G3}

// noGens are numbers that are of no generation.
var noGens = []int{0, -1, -2, 4, 5, 255, 256 + 1, 1 << 32, 1<<32 + 1, math.MinInt, math.MaxInt}

// some is n bytes, none of them 0 or like the one ahead.
func some(n int) []byte {
	b := make([]byte, n)
	for k := range b {
		b[k] = byte(7*k%250 + 1)
	}
	return b
}

// scribble writes into all bytes.
func scribble(b []byte) {
	for k := range b {
		b[k] ^= 0xff
	}
}

// phases are metas of each generation, Stable and Moving to each target, that may be.
func phases() []meta.Meta {
	var l []meta.Meta
	for _, g := range allGens {
		l = append(l, meta.Meta{Gen: g, Txid: 5, Root: 4, Pages: 9, List: 6})
		for target := g + 1; target <= api.G3; target++ {
			for _, long := range []int{0, 1, longest(target) - 1, longest(target)} {
				l = append(l, meta.Meta{Gen: g, Phase: meta.Moving, Target: target, Txid: 5, Root: 4, Pages: 9, List: 6, Cursor: some(long)})
			}
		}
	}
	return l
}

// metas are those, with numbers at the edges too.
func metas() []meta.Meta {
	var l []meta.Meta
	for _, m := range phases() {
		l = append(l, m)
		for _, txid := range []int{1, 2, 255, 256, 1<<16 + 1, 1<<31 - 2, 1<<31 - 1} {
			for _, pages := range []int{3, 4, 256, 257, 1<<14 - 1, 1 << 14} {
				for _, root := range []int{2, pages - 1} {
					for _, list := range []int{0, 2, pages - 1} {
						m.Txid, m.Pages, m.Root, m.List = txid, pages, root, list
						l = append(l, m)
					}
				}
			}
		}
	}
	return l
}

// number is one of a meta's fields, by its name.
func number(m *meta.Meta, name string) *int {
	switch name {
	case "Gen":
		return &m.Gen
	case "Phase":
		return &m.Phase
	case "Target":
		return &m.Target
	case "Txid":
		return &m.Txid
	case "Root":
		return &m.Root
	case "Pages":
		return &m.Pages
	}
	return &m.List
}

var names = []string{"Gen", "Phase", "Target", "Txid", "Root", "Pages", "List"}

// strange are numbers at edges of all kinds.
var strange = []int{math.MinInt, -1 << 32, -1, 0, 1, 2, 3, 4, 5, 8, 9, 10, 255, 256, 257, 258, 259, 1<<14 - 1, 1 << 14, 1<<14 + 1, 1<<31 - 1, 1 << 31, 1 << 32, 1<<32 + 1, 1<<32 + 2, 1<<32 + 3, 1<<32 + 5, math.MaxInt}

// changed are metas of which one number, or the cursor, is another one; some of them may be.
func changed() []meta.Meta {
	var l []meta.Meta
	for _, m := range phases() {
		for _, name := range names {
			for _, n := range strange {
				x := copyOf(m)
				*number(&x, name) = n
				l = append(l, x)
			}
		}
		for long := range 40 {
			m.Cursor = some(long)
			l = append(l, m)
		}
		m.Cursor = some(256 + 4)
		l = append(l, m)
	}
	return l
}

func TestP91Right(t *testing.T) {
	for _, m := range metas() {
		if !meta.Right(m) {
			t.Errorf("%v is not right", m)
		}
	}
	right := 0
	for _, m := range changed() {
		if meta.Right(m) != plainRight(m) {
			t.Errorf("Right(%v) is %v", m, meta.Right(m))
		}
		if plainRight(m) {
			right++
		}
	}
	if right < 100 {
		t.Error("hardly any of them is right:", right)
	}
}

func TestP91Wrong(t *testing.T) {
	stable := meta.Meta{Gen: 2, Txid: 5, Root: 4, Pages: 9, List: 6}
	moving := meta.Meta{Gen: 1, Phase: meta.Moving, Target: 2, Txid: 5, Root: 4, Pages: 9, List: 6, Cursor: some(20)}
	for k, m := range []meta.Meta{stable, moving} {
		if !meta.Right(m) {
			t.Fatal(k, "is not right")
		}
		for name, l := range map[string][]int{
			"Gen":    noGens,
			"Phase":  {-1, 1 - m.Phase, 2, 3, 256, 257, 1 << 32},
			"Target": {-1, 1, 4, 256 + 3, 1 << 32, math.MinInt, math.MaxInt},
			"Txid":   {math.MinInt, -1, 0, 1 << 31, 1<<32 + 1, math.MaxInt},
			"Root":   {math.MinInt, -4, 0, 1, 9, 10, math.MaxInt},
			"Pages":  {math.MinInt, -9, 0, 3, 4, 5, 6, 1<<14 + 1, 1 << 20, math.MaxInt},
			"List":   {math.MinInt, -6, -1, 1, 9, 10, math.MaxInt},
		} {
			for _, n := range l {
				x := m
				*number(&x, name) = n
				if meta.Right(x) {
					t.Errorf("%v is right", x)
				}
			}
		}
	}
	stable.Cursor = []byte{0}
	moving.Cursor = some(21)
	if meta.Right(stable) || meta.Right(moving) || meta.Right(meta.Meta{}) {
		t.Error("a wrong cursor, or no meta, is right")
	}
}

func TestP91Targets(t *testing.T) {
	for _, g := range allGens {
		for target := -1; target < 6; target++ {
			m := meta.Meta{Gen: g, Target: target, Txid: 1, Root: 2, Pages: 3}
			if meta.Right(m) != (target == 0) {
				t.Errorf("Stable, %d, target %d: %v", g, target, meta.Right(m))
			}
			m.Phase = meta.Moving
			if want := target > g && target <= 3; meta.Right(m) != want {
				t.Errorf("Moving, %d, target %d: %v", g, target, meta.Right(m))
			}
		}
	}
}

func TestP91Same(t *testing.T) {
	for _, m := range changed() {
		x := copyOf(m)
		if !meta.Same(m, x) || !meta.Same(x, m) {
			t.Errorf("%v is not the same as itself", m)
		}
		for _, name := range names {
			for _, by := range []int{1, -1, 256, 1 << 32} {
				x := copyOf(m)
				*number(&x, name) += by
				if meta.Same(m, x) || meta.Same(x, m) {
					t.Errorf("%v is the same as %v", m, x)
				}
			}
		}
		x.Cursor = append(x.Cursor, 0)
		if meta.Same(m, x) || meta.Same(x, m) {
			t.Errorf("%v is the same as %v", m, x)
		}
		for k := range m.Cursor {
			x := copyOf(m)
			x.Cursor[k]++
			if meta.Same(m, x) || meta.Same(x, m) {
				t.Errorf("%v is the same as %v", m, x)
			}
		}
	}
	if !meta.Same(meta.Meta{}, meta.Meta{Cursor: []byte{}}) {
		t.Error("an empty cursor is another one than none")
	}
}

func TestP91Write(t *testing.T) {
	for _, g := range strange {
		for _, target := range strange {
			for _, phase := range strange {
				want := g
				if phase == meta.Moving {
					want = target
				}
				if n := meta.Write(meta.Meta{Gen: g, Phase: phase, Target: target}); n != want {
					t.Errorf("Write of %d, %d, %d is %d", g, phase, target, n)
				}
			}
		}
	}
}

func TestP91Slot(t *testing.T) {
	for txid := range 300 {
		if n := meta.Slot(2 * txid); n != 0 {
			t.Errorf("Slot(%d) is %d", 2*txid, n)
		}
		if n := meta.Slot(2*txid + 1); n != 1 {
			t.Errorf("Slot(%d) is %d", 2*txid+1, n)
		}
	}
	for txid, want := range map[int]int{1<<31 - 1: 1, 1<<31 - 2: 0, math.MaxInt: 1, math.MinInt: 0, math.MinInt + 1: 1, -1: 1, -2: 0} {
		if n := meta.Slot(txid); n != want {
			t.Errorf("Slot(%d) is %d", txid, n)
		}
	}
}

func TestP91Phases(t *testing.T) {
	if meta.Stable != 0 || meta.Moving != 1 {
		t.Error(meta.Stable, meta.Moving)
	}
}

func TestP91LeavesCursor(t *testing.T) {
	room := append(make([]byte, 0, 400), some(400)...)
	m := meta.Meta{Gen: 1, Phase: 1, Target: 2, Txid: 5, Root: 4, Pages: 9, Cursor: room[3:20]}
	meta.Right(m)
	meta.Same(m, m)
	meta.Write(m)
	meta.Encode(m)
	if !bytes.Equal(room, some(400)) {
		t.Error("a cursor is written into, or behind")
	}
}

func TestP92Example(t *testing.T) {
	want := make([]byte, 256)
	copy(want, []byte{0x52, 0x47, 0x41, 0x55, 1, 0, 0, 0, 1, 0, 0, 0, 2, 0, 0, 0, 3, 0, 0, 0})
	copy(want[248:], []byte{0x55, 0x41, 0x47, 0x52})
	b, e := meta.Encode(meta.Meta{Gen: 1, Txid: 1, Root: 2, Pages: 3})
	if e != api.OK || !bytes.Equal(b, reseal(want)) {
		t.Errorf("%x, %d", b, e)
	}
}

func TestP92Bytes(t *testing.T) {
	for k, x := range []struct {
		m    meta.Meta
		want []byte
	}{
		{meta.Meta{Gen: 1, Txid: 0x01020304, Root: 0x506, Pages: 0x708, List: 0x109}, []byte{'R', 'G', 'A', 'U', 1, 0, 0, 0, 4, 3, 2, 1, 6, 5, 0, 0, 8, 7, 0, 0, 9, 1, 0, 0}},
		{meta.Meta{Gen: 2, Txid: 0x01020304, Root: 0x506, Pages: 0x708, List: 0x109}, []byte{'R', 'G', 'A', 'U', 2, 0, 0, 0, 4, 3, 2, 1, 0, 0, 0, 0, 6, 5, 0, 0, 0, 0, 0, 0, 8, 7, 0, 0, 0, 0, 0, 0, 9, 1}},
		{meta.Meta{Gen: 3, Txid: 258, Root: 5, Pages: 9, List: 6}, []byte{'R', 'G', 'A', 'U', 3, 0, 0, 0, 2, 1, 0, 0, 0, 0, 0, 0, 5, 0, 0, 0, 0, 0, 0, 0, 9, 0, 0, 0, 0, 0, 0, 0, 6}},
		{meta.Meta{Gen: 1, Phase: 1, Target: 2, Txid: 7, Root: 5, Pages: 9, Cursor: []byte("key")}, []byte{'R', 'G', 'A', 'U', 1, 1, 2, 3, 7, 0, 0, 0, 5, 0, 0, 0, 9, 0, 0, 0, 0, 0, 0, 0, 'k', 'e', 'y'}},
		{meta.Meta{Gen: 2, Phase: 1, Target: 3, Txid: 7, Root: 5, Pages: 9, Cursor: []byte{0, 255}}, []byte{'R', 'G', 'A', 'U', 2, 1, 3, 2, 7, 0, 0, 0, 0, 0, 0, 0, 5, 0, 0, 0, 0, 0, 0, 0, 9, 0, 0, 0, 0, 0, 0, 0, 0, 0, 0, 0, 0, 0, 0, 0, 0, 255}},
	} {
		b, e := meta.Encode(x.m)
		if e != api.OK || !bytes.Equal(b, page(x.want...)) {
			t.Errorf("%d: %x, %d", k, b, e)
		}
	}
}

func TestP92Encode(t *testing.T) {
	r := dice(1)
	l := metas()
	for range 3000 {
		l = append(l, someMeta(r))
	}
	for _, m := range l {
		was := copyOf(m)
		b, e := meta.Encode(m)
		if e != api.OK || !bytes.Equal(b, plainEncode(m)) {
			t.Errorf("Encode(%v) is %x, %d", m, b, e)
		}
		if !equal(m, was) {
			t.Errorf("Encode writes into %v", was)
		}
	}
}

// A meta stands in its first sector, and in its last one.
func TestP92Sectors(t *testing.T) {
	for _, m := range metas() {
		b, _ := meta.Encode(m)
		if len(b) != 256 || !bytes.Equal(b[64:192], make([]byte, 128)) || string(b[:4]) != "RGAU" || string(b[248:252]) != "UAGR" {
			t.Errorf("Encode(%v) is %x", m, b)
		}
	}
}

func TestP92Refuses(t *testing.T) {
	refused := 0
	for _, m := range append(changed(), meta.Meta{}) {
		if plainRight(m) {
			continue
		}
		refused++
		if b, e := meta.Encode(m); len(b) != 0 || e != api.ErrMetaForm {
			t.Errorf("Encode(%v) is %x, %d", m, b, e)
		}
	}
	if refused < 100 {
		t.Error("hardly any of them is wrong:", refused)
	}
}

func TestP92SharesNothing(t *testing.T) {
	m := meta.Meta{Gen: 1, Phase: 1, Target: 3, Txid: 7, Root: 5, Pages: 9, Cursor: some(24)}
	b, _ := meta.Encode(m)
	again, _ := meta.Encode(m)
	scribble(b[:cap(b)])
	if !bytes.Equal(m.Cursor, some(24)) || !bytes.Equal(again, plainEncode(m)) {
		t.Error("what Encode tells is its own, or the cursor's")
	}
	scribble(m.Cursor)
	if !bytes.Equal(again[24:48], some(24)) {
		t.Error("what Encode tells is the cursor's")
	}
}

func TestP93Decode(t *testing.T) {
	for _, m := range metas() {
		decodes(t, plainEncode(m))
	}
}

func TestP93Example(t *testing.T) {
	b := page('R', 'G', 'A', 'U', 1, 0, 0, 0, 1, 0, 0, 0, 2, 0, 0, 0, 3, 0, 0, 0)
	m, e := meta.Decode(b)
	if e != api.OK || !equal(m, meta.Meta{Gen: 1, Txid: 1, Root: 2, Pages: 3}) {
		t.Errorf("%v, %d", m, e)
	}
}

// refuses wants an error, and a zero meta.
func refuses(t *testing.T, b []byte, want api.Errno) {
	t.Helper()
	m, e := meta.Decode(b)
	if e != want || !equal(m, meta.Meta{}) {
		t.Errorf("Decode(%x) is %v, %d; want %d", b, m, e, want)
	}
}

func TestP93Magic(t *testing.T) {
	for _, m := range phases() {
		good := plainEncode(m)
		for n := range 600 {
			if n != 256 {
				b := append(bytes.Clone(good), make([]byte, 600)...)[:n]
				refuses(t, b, api.ErrMetaMagic)
			}
		}
		refuses(t, nil, api.ErrMetaMagic)
		refuses(t, append(bytes.Clone(good), good...), api.ErrMetaMagic)
		for _, at := range []int{0, 1, 2, 3, 248, 249, 250, 251} {
			for by := 1; by < 256; by++ {
				b := bytes.Clone(good)
				b[at] ^= byte(by)
				refuses(t, b, api.ErrMetaMagic)
				refuses(t, reseal(b), api.ErrMetaMagic)
			}
		}
		for _, swap := range []string{"UAGR", "uagr", "rgau", "\x00\x00\x00\x00"} {
			b := bytes.Clone(good)
			copy(b, swap)
			refuses(t, reseal(b), api.ErrMetaMagic)
		}
	}
	refuses(t, make([]byte, 256), api.ErrMetaMagic)
}

func TestP93Sum(t *testing.T) {
	for _, m := range phases() {
		good := plainEncode(m)
		for at := range good {
			if at < 4 || at >= 248 && at < 252 {
				continue
			}
			for _, by := range []byte{1, 2, 4, 0x80, 0xff} {
				b := bytes.Clone(good)
				b[at] ^= by
				refuses(t, b, api.ErrMetaSum)
			}
		}
	}
}

func TestP93Gen(t *testing.T) {
	for _, m := range phases() {
		good := plainEncode(m)
		for n := range 256 {
			b := bytes.Clone(good)
			b[4] = byte(n)
			if n < 1 || n > 3 {
				refuses(t, reseal(b), api.ErrMetaGen)
			}
			decodes(t, reseal(b))
			b = bytes.Clone(good)
			b[6] = byte(n)
			if n > 3 {
				refuses(t, reseal(b), api.ErrMetaGen)
			}
			decodes(t, reseal(b))
		}
	}
}

// Where several errors apply, it is the one that is named first.
func TestP93Order(t *testing.T) {
	b := page('R', 'G', 'A', 'U', 9, 7, 7, 255, 255)
	refuses(t, b, api.ErrMetaGen)
	b[100]++
	refuses(t, b, api.ErrMetaSum)
	b[248]++
	refuses(t, b, api.ErrMetaMagic)
	refuses(t, page('R', 'G', 'A', 'U', 1, 7, 7, 255), api.ErrMetaGen)
	refuses(t, page('R', 'G', 'A', 'U', 0, 0, 0, 0, 1, 0, 0, 0, 2, 0, 0, 0, 3), api.ErrMetaGen)
	refuses(t, page('R', 'G', 'A', 'U', 1, 7, 3, 255), api.ErrMetaForm)
	refuses(t, page('R', 'G', 'A', 'U', 1), api.ErrMetaForm)
}

func TestP93Form(t *testing.T) {
	for _, m := range changed() {
		if !plainRight(m) && len(m.Cursor) < 200 {
			decodes(t, plainEncode(m))
		}
	}
	for k, b := range [][]byte{
		{'R', 'G', 'A', 'U', 1, 1, 2, 17, 5, 0, 0, 0, 2, 0, 0, 0, 3, 0, 0, 0},    // a cursor of zeros, which may be
		{'R', 'G', 'A', 'U', 1, 1, 2, 21, 5, 0, 0, 0, 2, 0, 0, 0, 3, 0, 0, 0},    // longer than a key of the target
		{'R', 'G', 'A', 'U', 1, 1, 1, 0, 5, 0, 0, 0, 2, 0, 0, 0, 3, 0, 0, 0},     // to where it is
		{'R', 'G', 'A', 'U', 1, 1, 0, 0, 5, 0, 0, 0, 2, 0, 0, 0, 3, 0, 0, 0},     // to nowhere
		{'R', 'G', 'A', 'U', 1, 0, 0, 0, 5, 0, 0, 128, 2, 0, 0, 0, 3, 0, 0, 0},   // Txid of 2^31 and 5
		{'R', 'G', 'A', 'U', 1, 0, 0, 0, 0, 0, 0, 0, 2, 0, 0, 0, 3, 0, 0, 0},     // Txid of 0
		{'R', 'G', 'A', 'U', 1, 0, 0, 0, 5, 0, 0, 0, 2, 0, 0, 0, 1, 64, 0, 0, 0}, // a page more than MaxPages
		{'R', 'G', 'A', 'U', 1, 0, 0, 0, 5, 0, 0, 0, 1, 0, 0, 0, 3, 0, 0, 0},     // the root is a meta's page
		{'R', 'G', 'A', 'U', 1, 0, 0, 0, 5, 0, 0, 0, 2, 0, 0, 0, 2, 0, 0, 0},     // the root is none
		{'R', 'G', 'A', 'U', 1, 0, 0, 0, 5, 0, 0, 0, 2, 0, 0, 0, 3, 0, 0, 0, 3},  // the list is none
	} {
		want := api.ErrMetaForm
		if k == 0 {
			want = api.OK
		}
		if _, e := meta.Decode(page(b...)); e != want {
			t.Errorf("%d: %d", k, e)
		}
		decodes(t, page(b...))
	}
}

// Numbers of 8 bytes: what stands in their upper ones counts.
func TestP93UpperBytes(t *testing.T) {
	for _, g := range []int{api.G2, api.G3} {
		good := plainEncode(meta.Meta{Gen: g, Txid: 5, Root: 4, Pages: 9, List: 6})
		for at := 8; at < 40; at++ {
			for _, by := range []byte{1, 64, 128, 255} {
				b := bytes.Clone(good)
				b[at] ^= by
				decodes(t, reseal(b))
				if at%8 >= 4 {
					refuses(t, reseal(b), api.ErrMetaForm)
				}
			}
		}
	}
}

// turns are what a byte is changed by: those that have a meaning of their own by all there is.
func turns(at int) []byte {
	if at >= 8 {
		return []byte{1, 3, 8, 0x80, 0xff}
	}
	var l []byte
	for by := 1; by < 256; by++ {
		l = append(l, byte(by))
	}
	return l
}

func TestP93EachByte(t *testing.T) {
	for _, m := range phases() {
		good := plainEncode(m)
		for at := range 252 {
			for _, by := range turns(at) {
				b := bytes.Clone(good)
				b[at] ^= by
				decodes(t, b)
				decodes(t, reseal(b))
			}
		}
	}
}

// The bytes behind the cursor are zeros, up to the mark.
func TestP93Zeros(t *testing.T) {
	for _, m := range phases() {
		from := 24 + len(m.Cursor)
		if m.Gen != api.G1 {
			from += 16
		}
		for at := from; at < 248; at++ {
			b := plainEncode(m)
			b[at] = 1
			refuses(t, reseal(b), api.ErrMetaForm)
		}
	}
}

func TestP93Cursors(t *testing.T) {
	for _, m := range phases() {
		for long := range 256 {
			b := plainEncode(m)
			b[7] = byte(long)
			decodes(t, reseal(b))
		}
	}
}

func TestP93SharesNothing(t *testing.T) {
	want := meta.Meta{Gen: 1, Phase: 1, Target: 3, Txid: 6, Root: 5, Pages: 9, Cursor: some(24)}
	b := plainEncode(want)
	m, _ := meta.Decode(b)
	again, _ := meta.Decode(b)
	chosen, _, _ := meta.Choose(b, b)
	scribble(m.Cursor[:cap(m.Cursor)])
	if !bytes.Equal(b, plainEncode(want)) || !equal(again, want) || !equal(chosen, want) {
		t.Error("what Decode tells is its own, or the page's")
	}
	scribble(chosen.Cursor[:cap(chosen.Cursor)])
	if !bytes.Equal(b, plainEncode(want)) || !equal(again, want) {
		t.Error("what Choose tells is its own, or the page's")
	}
	scribble(b)
	if !equal(again, want) {
		t.Error("what Decode tells is the page's")
	}
}

func TestP93Capacity(t *testing.T) {
	want := meta.Meta{Gen: 3, Txid: 6, Root: 5, Pages: 9}
	room := append(plainEncode(want), some(300)...)
	meta.Decode(room[:256])
	meta.Choose(room[:256], room[:256])
	if !bytes.Equal(room, append(plainEncode(want), some(300)...)) {
		t.Error("a page is written into, or behind")
	}
}

func TestP93AnyBytes(t *testing.T) {
	r := dice(3)
	for range 20000 {
		b := someBytes(r, 256)
		decodes(t, b)
		copy(b, "RGAU")
		copy(b[248:], "UAGR")
		decodes(t, b)
		decodes(t, reseal(b))
		b[4], b[5], b[6] = byte(r.IntN(5)), byte(r.IntN(3)), byte(r.IntN(5))
		decodes(t, reseal(b))
	}
}

// Some bytes of pages that are right are other ones: most are still metas, or nearly.
func TestP93NearlyRight(t *testing.T) {
	r := dice(4)
	right := 0
	for range 20000 {
		b := plainEncode(someMeta(r))
		for range 1 + r.IntN(3) {
			b[4+r.IntN(48)] = byte(r.IntN(10))
		}
		b = reseal(b)
		decodes(t, b)
		if _, e := meta.Decode(b); e == api.OK {
			right++
		}
	}
	if right < 1000 {
		t.Error("hardly any of them is right:", right)
	}
}

// withTxid is the page of a meta of that transaction.
func withTxid(txid int) []byte {
	return plainEncode(meta.Meta{Gen: 2, Txid: txid, Root: 2, Pages: 3})
}

func TestP93ChooseExample(t *testing.T) {
	torn := append(withTxid(6)[:64], make([]byte, 192)...)
	for k, x := range []struct {
		a, b     []byte
		txid, at int
		e        api.Errno
	}{
		{withTxid(6), withTxid(5), 6, 0, api.OK},
		{torn, withTxid(5), 5, 1, api.OK},
		{withTxid(4), withTxid(5), 5, 1, api.OK},
		{withTxid(4), torn, 4, 0, api.OK},
		{withTxid(1<<31 - 2), withTxid(1<<31 - 1), 1<<31 - 1, 1, api.OK},
		{withTxid(2), withTxid(1), 2, 0, api.OK},
		{withTxid(256), withTxid(1), 256, 0, api.OK},
		{withTxid(256), withTxid(65537), 65537, 1, api.OK},
		{withTxid(5), withTxid(6), 0, -1, api.ErrMetaForm},
		{withTxid(7), withTxid(5), 5, 1, api.OK},
		{withTxid(4), withTxid(6), 4, 0, api.OK},
		{torn, torn, 0, -1, api.ErrMetaForm},
		{nil, nil, 0, -1, api.ErrMetaForm},
	} {
		if m, at, e := meta.Choose(x.a, x.b); m.Txid != x.txid || at != x.at || e != x.e {
			t.Errorf("%d: %v, %d, %d", k, m, at, e)
		}
		chooses(t, x.a, x.b)
	}
}

// kinds are pages of all kinds.
func kinds() map[string][]byte {
	unsealed := withTxid(4)
	unsealed[20]++
	l := map[string][]byte{
		"none":         nil,
		"short":        withTxid(4)[:255],
		"long":         append(withTxid(4), 0),
		"two":          append(withTxid(4), withTxid(4)...),
		"zeros":        make([]byte, 256),
		"unsealed":     unsealed,
		"no form":      page('R', 'G', 'A', 'U', 1),
		"strange gen":  page('R', 'G', 'A', 'U', 9),
		"unsealed gen": append(page('R', 'G', 'A', 'U', 9)[:255], 0),
		"strange move": page('R', 'G', 'A', 'U', 1, 1, 4, 0, 8, 0, 0, 0, 2, 0, 0, 0, 3),
		"moving":       plainEncode(meta.Meta{Gen: 1, Phase: 1, Target: 2, Txid: 6, Root: 2, Pages: 3, Cursor: some(5)}),
		"moved":        plainEncode(meta.Meta{Gen: 2, Txid: 7, Root: 2, Pages: 3}),
	}
	for _, txid := range []int{1, 2, 3, 4, 5, 1<<31 - 2, 1<<31 - 1} {
		l["right "+strconv.Itoa(txid)] = withTxid(txid)
	}
	return l
}

func TestP93Choose(t *testing.T) {
	for _, a := range kinds() {
		for _, b := range kinds() {
			chooses(t, a, b)
		}
	}
}

// ErrMetaGen is told where no meta is, whichever page is strange, and whatever the other one is.
func TestP93ChooseGen(t *testing.T) {
	l := kinds()
	for _, name := range []string{"strange gen", "strange move"} {
		for _, other := range []string{"none", "short", "zeros", "unsealed", "no form", "strange gen"} {
			for _, x := range [][2][]byte{{l[name], l[other]}, {l[other], l[name]}} {
				if m, at, e := meta.Choose(x[0], x[1]); at != -1 || e != api.ErrMetaGen || !equal(m, meta.Meta{}) {
					t.Errorf("%s and %s: %v, %d, %d", name, other, m, at, e)
				}
			}
		}
		if m, at, e := meta.Choose(l[name], withTxid(3)); m.Txid != 3 || at != 1 || e != api.OK {
			t.Errorf("%s and 3: %d, %d, %d", name, m.Txid, at, e)
		}
		if m, at, e := meta.Choose(withTxid(4), l[name]); m.Txid != 4 || at != 0 || e != api.OK {
			t.Errorf("4 and %s: %d, %d, %d", name, m.Txid, at, e)
		}
		if m, at, e := meta.Choose(withTxid(3), l[name]); m.Txid != 0 || at != -1 || e != api.ErrMetaGen {
			t.Errorf("3 and %s: %d, %d, %d", name, m.Txid, at, e)
		}
	}
	if _, at, e := meta.Choose(l["unsealed gen"], nil); at != -1 || e != api.ErrMetaForm {
		t.Errorf("unsealed: %d, %d", at, e)
	}
}

func TestP93ChooseAny(t *testing.T) {
	r := dice(5)
	for range 5000 {
		a, b := someMeta(r), someMeta(r)
		if r.IntN(2) == 0 {
			a.Txid, b.Txid = 1+r.IntN(9), 1+r.IntN(9)
		}
		chooses(t, plainEncode(a), plainEncode(b))
	}
}

func TestP94RoundTrip(t *testing.T) {
	r := dice(6)
	l := metas()
	for range 5000 {
		l = append(l, someMeta(r))
	}
	for _, m := range l {
		b, e := meta.Encode(m)
		again, no := meta.Decode(b)
		if e != api.OK || no != api.OK || !equal(again, m) || !meta.Same(again, m) {
			t.Errorf("%v comes back as %v: %d, %d", m, again, e, no)
		}
	}
}

// What is decoded is encoded as the same bytes: nothing but what was encoded is decoded.
func TestP94NothingElse(t *testing.T) {
	r := dice(7)
	for range 5000 {
		b := plainEncode(someMeta(r))
		b[4+r.IntN(244)] ^= byte(1 + r.IntN(255))
		b = reseal(b)
		m, e := meta.Decode(b)
		if e != api.OK {
			continue
		}
		if again, no := meta.Encode(m); no != api.OK || !bytes.Equal(again, b) {
			t.Errorf("%x comes back as %x", b, again)
		}
	}
}

func TestP94Bits(t *testing.T) {
	for _, m := range phases() {
		good, _ := meta.Encode(m)
		for bit := range 8 * len(good) {
			b := bytes.Clone(good)
			b[bit/8] ^= 1 << (bit % 8)
			if _, e := meta.Decode(b); e == api.OK {
				t.Errorf("%v, with bit %d turned, is decoded", m, bit)
			}
		}
	}
}

// torn is a page of which some sectors are the new one's, by the bits of a number.
func torn(was, is []byte, mask int) []byte {
	b := bytes.Clone(was)
	for k := range 4 {
		if mask>>k&1 == 1 {
			copy(b[64*k:64*k+64], is[64*k:])
		}
	}
	return b
}

// pages are the two of a file, that one first if it is of an even number.
func pages(txid int, b, other []byte) [2][]byte {
	if txid%2 == 0 {
		return [2][]byte{b, other}
	}
	return [2][]byte{other, b}
}

// tears holds that of a meta that is torn over other bytes the one of the other page is chosen, unless all of it is there.
func tears(t *testing.T, was []byte, next, other meta.Meta) {
	t.Helper()
	is, _ := meta.Encode(next)
	stays, _ := meta.Encode(other)
	for mask := range 16 {
		b := torn(was, is, mask)
		l := pages(next.Txid, b, stays)
		m, at, e := meta.Choose(l[0], l[1])
		want, slot := other, meta.Slot(other.Txid)
		if bytes.Equal(b, is) {
			want, slot = next, meta.Slot(next.Txid)
		}
		if e != api.OK || at != slot || !equal(m, want) {
			t.Errorf("%v, torn by %d over %x: %v, %d, %d; want %v", next, mask, was, m, at, e, want)
		}
	}
}

func TestP94Torn(t *testing.T) {
	r := dice(8)
	for range 5000 {
		was, other, next := someMeta(r), someMeta(r), someMeta(r)
		n := 1 + r.IntN(1<<31-4)
		if r.IntN(2) == 0 {
			n = 1 + r.IntN(300)
		}
		was.Txid, other.Txid, next.Txid = n, n+1, n+2
		b, _ := meta.Encode(was)
		tears(t, b, next, other)
		tears(t, make([]byte, 256), next, other)
	}
}

// Only the number of the transaction differs, as in a file that is not changed.
func TestP94TornAlike(t *testing.T) {
	for _, m := range phases() {
		l := [3]meta.Meta{m, m, m}
		for n := range 260 {
			for k := range l {
				l[k].Txid = n + 1 + k
			}
			b, _ := meta.Encode(l[0])
			tears(t, b, l[2], l[1])
			tears(t, make([]byte, 256), l[2], l[1])
		}
	}
}

// A page of zeros is written over the older meta first: what is torn then is none, or the older one.
func TestP94Zeros(t *testing.T) {
	for _, m := range phases() {
		older, _ := meta.Encode(m)
		other := m
		other.Txid++
		newest, _ := meta.Encode(other)
		for mask := range 16 {
			l := pages(m.Txid, torn(older, make([]byte, 256), mask), newest)
			if _, at, e := meta.Choose(l[0], l[1]); e != api.OK || at != meta.Slot(other.Txid) {
				t.Errorf("%v, torn by %d: %d, %d", m, mask, at, e)
			}
		}
	}
}
