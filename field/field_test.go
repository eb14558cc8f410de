package field_test

import (
	"bytes"
	"math"
	"strconv"
	"testing"

	"regauge/api"
	"regauge/field"
)

// top is the greatest number of so many bytes.
func top(width int) int {
	return int(uint64(math.MaxInt) >> max(0, 63-8*width))
}

// wrongWidths are those that no number has.
var wrongWidths = []int{math.MinInt, -8, -1, 0, 9, 16, 64, math.MaxInt}

func wantDone(t *testing.T, what string, w *field.Writer, at int, want []byte) {
	t.Helper()
	if b, e := w.Done(); e != api.OK || !bytes.Equal(b, want) {
		t.Errorf("%s: %v, %d, want %v", what, b, e, want)
	}
	if w.At() != at {
		t.Errorf("%s: at %d, want %d", what, w.At(), at)
	}
}

func wantReader(t *testing.T, what string, r *field.Reader, at, left int, e api.Errno) {
	t.Helper()
	if r.At() != at || r.Left() != left || r.Err() != e {
		t.Errorf("%s: at %d, left %d, error %d, want %d, %d, %d", what, r.At(), r.Left(), r.Err(), at, left, e)
	}
}

// wantSpoiled holds that a writer is spoiled, and that no call does anything to it any more.
func wantSpoiled(t *testing.T, what string, w *field.Writer, at int) {
	t.Helper()
	for i, f := range []func(){func() {}, func() { w.Put(1, 1) }, func() { w.Bytes([]byte{1}) }, func() { w.Bytes(nil) }, func() { w.Skip(1) }, func() { w.Skip(0) }, func() { w.Put(-1, 0) }} {
		f()
		if b, e := w.Done(); len(b) != 0 || e != api.ErrField || w.At() != at {
			t.Errorf("%s: call %d: %v, error %d, at %d, want none, %d, %d", what, i, b, e, w.At(), api.ErrField, at)
		}
	}
}

// wantReaderSpoiled holds that a reader is spoiled, and that no call tells anything, or goes on, any more.
func wantReaderSpoiled(t *testing.T, what string, r *field.Reader, at, left int) {
	t.Helper()
	wantReader(t, what, r, at, left, api.ErrField)
	for width := range 10 {
		if n := r.Get(width); n != 0 {
			t.Errorf("%s: Get(%d) of a spoiled reader is %d", what, width, n)
		}
		if b := r.Bytes(width); len(b) != 0 {
			t.Errorf("%s: Bytes(%d) of a spoiled reader is %v", what, width, b)
		}
		r.Skip(width)
		wantReader(t, what, r, at, left, api.ErrField)
	}
}

func TestP3Fits(t *testing.T) {
	for width := 1; width <= 8; width++ {
		for _, n := range []int{0, 1, 255, top(width) - 1, top(width)} {
			if !field.Fits(n, width) {
				t.Errorf("%d does not fit into %d", n, width)
			}
		}
		for _, n := range []int{-1, -256, math.MinInt, math.MinInt + 1} {
			if field.Fits(n, width) {
				t.Errorf("%d fits into %d", n, width)
			}
		}
		if got := field.Fits(math.MaxInt, width); got != (width == 8) {
			t.Errorf("Fits(2^63 - 1, %d) is %v", width, got)
		}
	}
	for width := 1; width < 8; width++ {
		for _, n := range []int{top(width) + 1, top(width) + 2, 2*top(width) + 2} {
			if field.Fits(n, width) {
				t.Errorf("%d fits into %d", n, width)
			}
		}
	}
	for _, width := range wrongWidths {
		for _, n := range []int{math.MinInt, -1, 0, 1, math.MaxInt} {
			if field.Fits(n, width) {
				t.Errorf("%d fits into %d", n, width)
			}
		}
	}
}

func TestP31Example(t *testing.T) {
	w := field.NewWriter(4)
	w.Put(513, 2)
	w.Put(7, 1)
	wantDone(t, "the chapter's example", w, 3, []byte{1, 2, 7, 0})
}

func TestP31NewIsZeros(t *testing.T) {
	for _, size := range []int{0, 1, 7, api.Page, 1<<16 - 1, 1 << 16} {
		wantDone(t, "new", field.NewWriter(size), 0, make([]byte, size))
	}
	for _, size := range []int{math.MinInt, -1, 1<<16 + 1, math.MaxInt} {
		w := field.NewWriter(size)
		wantDone(t, "of another size", w, 0, nil)
		w.Put(0, 1)
		wantSpoiled(t, "no room", w, 0)
	}
}

func TestP31PutLowestFirst(t *testing.T) {
	for width := 1; width <= 8; width++ {
		n := 0x0807060504030201 & top(width)
		w := field.NewWriter(10)
		w.Put(n, width)
		want := make([]byte, 10)
		copy(want, []byte{1, 2, 3, 4, 5, 6, 7, 8}[:width])
		wantDone(t, "rising bytes", w, width, want)
	}
	w := field.NewWriter(9)
	w.Put(math.MaxInt, 8)
	w.Put(255, 1)
	wantDone(t, "the greatest", w, 9, []byte{255, 255, 255, 255, 255, 255, 255, 127, 255})
}

func TestP31InOrder(t *testing.T) {
	w := field.NewWriter(12)
	w.Bytes([]byte("ab"))
	w.Skip(2)
	w.Put(3, 4)
	w.Bytes(nil)
	w.Bytes([]byte{})
	w.Skip(0)
	wantDone(t, "so far", w, 8, []byte{'a', 'b', 0, 0, 3, 0, 0, 0, 0, 0, 0, 0})
	w.Bytes([]byte("cdef"))
	wantDone(t, "all of it", w, 12, []byte{'a', 'b', 0, 0, 3, 0, 0, 0, 'c', 'd', 'e', 'f'})
	w.Skip(0)
	w.Bytes(nil)
	wantDone(t, "nothing has room in nothing", w, 12, []byte{'a', 'b', 0, 0, 3, 0, 0, 0, 'c', 'd', 'e', 'f'})
}

func TestP31ToTheLastByte(t *testing.T) {
	for _, x := range []struct {
		f    func(w *field.Writer)
		want []byte
	}{
		{func(w *field.Writer) { w.Put(0x030201, 3) }, []byte{9, 1, 2, 3}},
		{func(w *field.Writer) { w.Bytes([]byte{1, 2, 3}) }, []byte{9, 1, 2, 3}},
		{func(w *field.Writer) { w.Skip(3) }, []byte{9, 0, 0, 0}},
	} {
		w := field.NewWriter(4)
		w.Put(9, 1)
		x.f(w)
		wantDone(t, "just room", w, 4, x.want)
		w.Put(0, 1)
		wantSpoiled(t, "no more room", w, 4)
		w = field.NewWriter(3)
		w.Put(9, 1)
		x.f(w)
		wantSpoiled(t, "one byte less", w, 1)
	}
}

func TestP31Spoils(t *testing.T) {
	var l []func(w *field.Writer)
	for _, n := range []int{-1, -2, math.MinInt, 4, 5, math.MaxInt, math.MaxInt - 3} {
		l = append(l, func(w *field.Writer) { w.Skip(n) })
	}
	for _, n := range []int{4, 5, 1000} {
		l = append(l, func(w *field.Writer) { w.Bytes(make([]byte, n)) })
	}
	for _, width := range wrongWidths {
		l = append(l, func(w *field.Writer) { w.Put(0, width) }, func(w *field.Writer) { w.Put(1, width) })
	}
	for width := 1; width <= 8; width++ {
		l = append(l, func(w *field.Writer) { w.Put(-1, width) }, func(w *field.Writer) { w.Put(math.MinInt, width) })
		if width < 8 {
			l = append(l, func(w *field.Writer) { w.Put(top(width)+1, width) })
		}
		if width > 3 {
			l = append(l, func(w *field.Writer) { w.Put(0, width) })
		}
	}
	for i, f := range l {
		w := field.NewWriter(4)
		w.Put(7, 1)
		f(w)
		wantSpoiled(t, "call "+strconv.Itoa(i), w, 1)
	}
}

// A number that does not fit is refused where there would be room for it, too.
func TestP31DoesNotFitDespiteRoom(t *testing.T) {
	w := field.NewWriter(100)
	w.Put(256, 1)
	wantSpoiled(t, "too great", w, 0)
	w = field.NewWriter(100)
	w.Put(0, 9)
	wantSpoiled(t, "too wide", w, 0)
}

func TestP31DoneIsACopy(t *testing.T) {
	w := field.NewWriter(3)
	given := []byte{1, 2}
	w.Bytes(given)
	given[0] = 9
	b, _ := w.Done()
	keep := bytes.Clone(b)
	for i := range b {
		b[i]++
	}
	_ = append(b, 1, 2, 3)
	wantDone(t, "written into what was told", w, 2, []byte{1, 2, 0})
	c, _ := w.Done()
	w.Put(7, 1)
	if !bytes.Equal(c, keep) {
		t.Error("what was told is written into")
	}
	wantDone(t, "it goes on behind Done", w, 3, []byte{1, 2, 7})
	if given[0] != 9 || given[1] != 2 {
		t.Error("what was given is changed")
	}
}

func TestP31EachIsItsOwn(t *testing.T) {
	v, w := field.NewWriter(2), field.NewWriter(2)
	v.Put(1, 1)
	w.Put(2, 1)
	w.Skip(-1)
	wantDone(t, "the other one is spoiled", v, 1, []byte{1, 0})
	wantSpoiled(t, "the other one", w, 1)
}

func TestP32GetLowestFirst(t *testing.T) {
	b := []byte{1, 2, 3, 4, 5, 6, 7, 8, 9}
	for width := 1; width <= 8; width++ {
		r := field.NewReader(b)
		if n, want := r.Get(width), 0x0807060504030201&top(width); n != want {
			t.Errorf("Get(%d) is %x, want %x", width, n, want)
		}
		wantReader(t, "Get", r, width, 9-width, api.OK)
	}
}

func TestP32InOrder(t *testing.T) {
	r := field.NewReader([]byte("ab\x00\x00\x03\x00\x00\x00cdef"))
	wantReader(t, "new", r, 0, 12, api.OK)
	if b := r.Bytes(2); string(b) != "ab" {
		t.Errorf("Bytes(2) is %q", b)
	}
	wantReader(t, "Bytes", r, 2, 10, api.OK)
	r.Skip(2)
	wantReader(t, "Skip", r, 4, 8, api.OK)
	if n := r.Get(4); n != 3 {
		t.Errorf("Get(4) is %d", n)
	}
	wantReader(t, "Get", r, 8, 4, api.OK)
	if b := r.Bytes(0); len(b) != 0 {
		t.Errorf("Bytes(0) is %q", b)
	}
	r.Skip(0)
	wantReader(t, "of nothing", r, 8, 4, api.OK)
	if b := r.Bytes(4); string(b) != "cdef" {
		t.Errorf("Bytes(4) is %q", b)
	}
	r.Skip(0)
	r.Bytes(0)
	wantReader(t, "at the end nothing is there still", r, 12, 0, api.OK)
}

func TestP32NoBytes(t *testing.T) {
	for _, b := range [][]byte{nil, {}} {
		r := field.NewReader(b)
		wantReader(t, "new", r, 0, 0, api.OK)
		if n := r.Get(1); n != 0 {
			t.Errorf("Get(1) is %d", n)
		}
		wantReaderSpoiled(t, "no bytes", r, 0, 0)
	}
}

func TestP32MoreThanAWriterMayHave(t *testing.T) {
	b := make([]byte, 1<<16+9)
	b[1<<16+8] = 5
	r := field.NewReader(b)
	r.Skip(1<<16 + 8)
	if n := r.Get(1); n != 5 {
		t.Errorf("Get(1) is %d", n)
	}
	wantReader(t, "the last one", r, 1<<16+9, 0, api.OK)
}

func TestP32Spoils(t *testing.T) {
	var l []func(r *field.Reader) int
	for _, n := range []int{-1, -2, math.MinInt, 12, 13, math.MaxInt, math.MaxInt - 11} {
		l = append(l, func(r *field.Reader) int { r.Skip(n); return 0 }, func(r *field.Reader) int { return len(r.Bytes(n)) })
	}
	for _, width := range wrongWidths {
		l = append(l, func(r *field.Reader) int { return r.Get(width) })
	}
	l = append(l, func(r *field.Reader) int { return r.Get(8) }) // 2^64 - 1
	for i, f := range l {
		r := field.NewReader(bytes.Repeat([]byte{255}, 12))
		if n := r.Get(1); n != 255 {
			t.Fatalf("Get(1) is %d", n)
		}
		if n := f(r); n != 0 {
			t.Errorf("call %d told %d", i, n)
		}
		wantReaderSpoiled(t, "call "+strconv.Itoa(i), r, 1, 11)
	}
}

func TestP32NotAsMany(t *testing.T) {
	for width := 1; width <= 8; width++ {
		r := field.NewReader(make([]byte, 9+width))
		r.Skip(10)
		if n := r.Get(width); n != 0 {
			t.Errorf("Get(%d) is %d", width, n)
		}
		wantReaderSpoiled(t, "one less than Get asks", r, 10, width-1)
		r = field.NewReader(make([]byte, 10+width))
		r.Skip(10)
		r.Get(width)
		wantReader(t, "just as many", r, 10+width, 0, api.OK)
	}
}

func TestP32NoPlaceBelow2To63(t *testing.T) {
	for _, high := range []byte{0x80, 0x81, 0xff} {
		r := field.NewReader([]byte{1, 0, 0, 0, 0, 0, 0, high, 5})
		if n := r.Get(8); n != 0 {
			t.Errorf("Get(8) is %d", n)
		}
		wantReaderSpoiled(t, "2^63 or more", r, 0, 9)
	}
	r := field.NewReader([]byte{255, 255, 255, 255, 255, 255, 255, 0x7f, 5})
	if n := r.Get(8); n != math.MaxInt {
		t.Errorf("Get(8) is %d", n)
	}
	wantReader(t, "2^63 - 1", r, 8, 1, api.OK)
}

func TestP32OwnCopy(t *testing.T) {
	whole := []byte{1, 2, 3, 4, 5}
	r := field.NewReader(whole[:4])
	whole[0], whole[3] = 9, 9
	first := r.Bytes(2)
	if !bytes.Equal(first, []byte{1, 2}) {
		t.Errorf("bytes written into what was given are read: %v", first)
	}
	_ = append(first, 7, 7, 7)
	first[0] = 8
	if rest := r.Bytes(2); !bytes.Equal(rest, []byte{3, 4}) {
		t.Errorf("bytes written behind what was told are read: %v", rest)
	}
	if !bytes.Equal(whole, []byte{9, 2, 3, 9, 5}) {
		t.Errorf("what was given is changed: %v", whole)
	}
}

func TestP32EachIsItsOwn(t *testing.T) {
	b := []byte{1, 2}
	q, r := field.NewReader(b), field.NewReader(b)
	r.Skip(3)
	if n := q.Get(2); n != 513 {
		t.Errorf("Get(2) is %d", n)
	}
	wantReader(t, "the other one is spoiled", q, 2, 0, api.OK)
	wantReaderSpoiled(t, "the other one", r, 0, 2)
}
