package field_test

import (
	"bytes"
	"math/rand/v2"
	"testing"

	"regauge/api"
	"regauge/field"
)

// part is what is put, and got: a number of a width, bytes (width 0), or a gap (width below 0).
type part struct {
	n, width int
	b        []byte
}

func someParts(r *rand.Rand) []part {
	l := make([]part, r.IntN(30))
	for i := range l {
		switch kind := r.IntN(10); kind {
		case 8:
			l[i].b = make([]byte, r.IntN(20))
			for k := range l[i].b {
				l[i].b[k] = byte(r.Uint32())
			}
		case 9:
			l[i] = part{r.IntN(9), -1, nil}
		default:
			width := kind + 1
			l[i] = part{top(width) - r.IntN(2), width, nil}
			if r.IntN(3) > 0 {
				l[i].n = int(r.Uint64() >> 1 & uint64(top(width)))
			}
		}
	}
	return l
}

func sizeOf(l []part) int {
	size := 0
	for _, p := range l {
		switch {
		case p.width > 0:
			size += p.width
		case p.width == 0:
			size += len(p.b)
		default:
			size += p.n
		}
	}
	return size
}

func putAll(w *field.Writer, l []part) {
	for _, p := range l {
		switch {
		case p.width > 0:
			w.Put(p.n, p.width)
		case p.width == 0:
			w.Bytes(p.b)
		default:
			w.Skip(p.n)
		}
	}
}

// plainly lays the parts one behind the other as the chapter tells it.
func plainly(l []part) []byte {
	var b []byte
	for _, p := range l {
		switch {
		case p.width > 0:
			for n, i := uint64(p.n), 0; i < p.width; i++ {
				b = append(b, byte(n%256))
				n /= 256
			}
		case p.width == 0:
			b = append(b, p.b...)
		default:
			b = append(b, make([]byte, p.n)...)
		}
	}
	return b
}

func TestP33WhatWasPutIsGot(t *testing.T) {
	for seed := range uint64(500) {
		r := rand.New(rand.NewPCG(seed, 3))
		l := someParts(r)
		w := field.NewWriter(sizeOf(l))
		putAll(w, l)
		b, e := w.Done()
		if e != api.OK || w.At() != len(b) || !bytes.Equal(b, plainly(l)) {
			t.Fatalf("seed %d: %v, error %d, at %d, want %v", seed, b, e, w.At(), plainly(l))
		}
		q := field.NewReader(b)
		for i, p := range l {
			switch {
			case p.width > 0:
				if n := q.Get(p.width); n != p.n {
					t.Fatalf("seed %d, part %d: %d, want %d", seed, i, n, p.n)
				}
			case p.width == 0:
				if g := q.Bytes(len(p.b)); !bytes.Equal(g, p.b) {
					t.Fatalf("seed %d, part %d: %v, want %v", seed, i, g, p.b)
				}
			default:
				q.Skip(p.n)
			}
			at := sizeOf(l[:i+1])
			wantReader(t, "behind a part", q, at, len(b)-at, api.OK)
		}
	}
}

// Into one byte less than the parts take they do not go, and what is told is the place ahead of the first one without room.
func TestP33OneByteLess(t *testing.T) {
	for seed := range uint64(200) {
		r := rand.New(rand.NewPCG(seed, 4))
		l := append(someParts(r), part{1, 1 + r.IntN(8), nil})
		size := sizeOf(l) - 1
		at := sizeOf(l[:len(l)-1])
		w := field.NewWriter(size)
		putAll(w, l)
		wantSpoiled(t, "one byte less", w, at)
		q := field.NewReader(plainly(l)[:size])
		q.Skip(at)
		q.Get(l[len(l)-1].width)
		wantReaderSpoiled(t, "one byte less", q, at, size-at)
	}
}

func TestP33EachWidthEdge(t *testing.T) {
	for width := 1; width <= 8; width++ {
		for _, n := range []int{0, 1, 127, 128, 255, top(width) / 2, top(width) - 1, top(width)} {
			w := field.NewWriter(width)
			w.Put(n, width)
			b, e := w.Done()
			if got := field.NewReader(b).Get(width); e != api.OK || got != n {
				t.Errorf("%d in %d bytes: got %d, error %d", n, width, got, e)
			}
		}
	}
}
