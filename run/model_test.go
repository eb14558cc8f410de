package run_test

import (
	"math/rand/v2"
	"slices"
	"testing"

	"regauge/run"
)

// set is a set of pages: bit k is page from + k. All sets of a few pages are gone through, where pages begin, where they end, and between.
type set uint

var froms = []int{0, 7, bound - 10}

const wide = 10

func (s set) has(k int) bool {
	return k >= 0 && k < wide && s>>k&1 == 1
}

// span is the set of n pages from k on.
func span(k, n int) set {
	return (1<<n - 1) << k
}

func (s set) pages(from int) []int {
	var l []int
	for k := range wide {
		if s.has(k) {
			l = append(l, from+k)
		}
	}
	return l
}

// runs goes page by page: a run begins at a page whose page ahead is none, and ends where the next one is none.
func (s set) runs(from int) []run.Run {
	var l []run.Run
	for k := range wide {
		if s.has(k) && !s.has(k-1) {
			n := 1
			for s.has(k + n) {
				n++
			}
			l = append(l, run.Run{At: from + k, Len: n})
		}
	}
	return l
}

// eachSet goes through all sets of pages, at all places.
func eachSet(f func(s set, from int)) {
	for _, from := range froms {
		for s := range set(1 << wide) {
			f(s, from)
		}
	}
}

func TestP41EachSet(t *testing.T) {
	r := rand.New(rand.NewPCG(2, 4))
	eachSet(func(s set, from int) {
		l, pages := s.runs(from), s.pages(from)
		if !run.Right(l) || !slices.Equal(run.Pages(l), pages) || run.Count(l) != len(pages) {
			t.Fatalf("%v: %v, %v, %d", l, run.Right(l), run.Pages(l), run.Count(l))
		}
		end := 0
		for k := -2; k < wide+2; k++ {
			if run.Has(l, from+k) != s.has(k) {
				t.Fatalf("Has(%v, %d): want %v", l, from+k, s.has(k))
			}
			if s.has(k) {
				end = from + k + 1
			}
		}
		if run.End(l) != end {
			t.Fatalf("End(%v) is %d, want %d", l, run.End(l), end)
		}
		if got := run.Of(pages); !slices.Equal(got, l) {
			t.Fatalf("Of(%v) is %v, want %v", pages, got, l)
		}
		twice := slices.Concat(pages, pages, []int{-1, bound})
		r.Shuffle(len(twice), func(i, j int) { twice[i], twice[j] = twice[j], twice[i] })
		if got := run.Of(twice); !slices.Equal(got, l) {
			t.Fatalf("Of(%v) is %v, want %v", twice, got, l)
		}
	})
}

// A row of two is right just if both may be, and there is a page between.
func TestP41EachRowOfTwo(t *testing.T) {
	for _, from := range froms {
		for k := range wide * wide * wide * wide {
			a := run.Run{At: from + k%wide - 1, Len: k / wide % wide}
			b := run.Run{At: from + k/wide/wide%wide - 1, Len: k / wide / wide / wide}
			may := a.At >= 0 && a.Len > 0 && a.At+a.Len <= bound && b.At >= 0 && b.Len > 0 && b.At+b.Len <= bound
			if got, want := run.Right([]run.Run{a, b}), may && a.At+a.Len < b.At; got != want {
				t.Fatalf("Right(%v, %v) is %v", a, b, got)
			}
		}
	}
}

func TestP42EachChange(t *testing.T) {
	eachSet(func(s set, from int) {
		l := s.runs(from)
		for k := range wide {
			for n := 1; n <= wide-k; n++ {
				x, piece := run.Run{At: from + k, Len: n}, span(k, n)
				sum, more := run.Add(l, x)
				if want := s & piece; more != (want == 0) || !slices.Equal(sum, added(s, piece).runs(from)) {
					t.Fatalf("Add(%v, %v) is %v, %v", l, x, sum, more)
				}
				rest, less := run.Drop(l, x)
				if less != (s&piece == piece) || !slices.Equal(rest, dropped(s, piece).runs(from)) {
					t.Fatalf("Drop(%v, %v) is %v, %v", l, x, rest, less)
				}
			}
		}
	})
}

func added(s, piece set) set {
	if s&piece != 0 {
		return s
	}
	return s | piece
}

func dropped(s, piece set) set {
	if s&piece != piece {
		return s
	}
	return s &^ piece
}

func TestP42EachPair(t *testing.T) {
	for a := range set(1 << wide) {
		for b := range set(1 << wide) {
			k, l := a.runs(3), b.runs(3)
			if got, want := run.Union(k, l), (a | b).runs(3); !slices.Equal(got, want) {
				t.Fatalf("Union(%v, %v) is %v, want %v", k, l, got, want)
			}
			if got := run.Meet(k, l); got != (a&b != 0) {
				t.Fatalf("Meet(%v, %v) is %v", k, l, got)
			}
		}
	}
}

// place is the first bit behind which n bits are set, one behind the other; -1, if there is none.
func place(s set, n int) int {
	for k := range wide {
		if k+n <= wide && dropped(s, span(k, n)) != s {
			return k
		}
	}
	return -1
}

func TestP43EachTake(t *testing.T) {
	eachSet(func(s set, from int) {
		l := s.runs(from)
		for n := 1; n <= wide+1; n++ {
			at, rest, is := run.Take(l, n)
			k := place(s, n)
			if k < 0 {
				if at != 0 || is || !slices.Equal(rest, l) {
					t.Fatalf("Take(%v, %d) is %d, %v, %v", l, n, at, rest, is)
				}
				continue
			}
			if want := dropped(s, span(k, n)).runs(from); at != from+k || !is || !slices.Equal(rest, want) {
				t.Fatalf("Take(%v, %d) is %d, %v, %v, want %d, %v", l, n, at, rest, is, from+k, want)
			}
		}
	})
}

// What was added is dropped, what was dropped is added, what was taken was there, and is added again.
func TestP44ThereAndBack(t *testing.T) {
	eachSet(func(s set, from int) {
		l := s.runs(from)
		for k := range wide {
			for n := 1; n <= wide-k; n++ {
				x := run.Run{At: from + k, Len: n}
				if more, is := run.Add(l, x); is {
					wantBack(t, "added, dropped", l, more, x, run.Drop)
				}
				if less, is := run.Drop(l, x); is {
					wantBack(t, "dropped, added", l, less, x, run.Add)
				}
			}
		}
		for n := 1; n <= wide; n++ {
			at, rest, is := run.Take(l, n)
			if !is {
				continue
			}
			for page := at; page < at+n; page++ {
				if !run.Has(l, page) || run.Has(rest, page) {
					t.Fatalf("Take(%v, %d) took %d", l, n, page)
				}
			}
			wantBack(t, "taken, added", l, rest, run.Run{At: at, Len: n}, run.Add)
		}
	})
}

func wantBack(t *testing.T, what string, was, l []run.Run, x run.Run, back func(l []run.Run, x run.Run) ([]run.Run, bool)) {
	t.Helper()
	if got, is := back(l, x); !is || !slices.Equal(got, was) || !run.Right(l) {
		t.Fatalf("%s: %v of %v by way of %v: %v, %v", what, x, was, l, got, is)
	}
}

// A long way: a set is added to, dropped from and taken of until it is none.
func TestP44LongWay(t *testing.T) {
	for seed := range uint64(12) {
		r := rand.New(rand.NewPCG(seed, 5))
		var in [bound]bool
		var l []run.Run
		for range 300 {
			x := run.Run{At: r.IntN(200) * (bound / 200), Len: 1 + r.IntN(bound/150)}
			if more, is := run.Add(l, x); is {
				l = more
				mark(in[:], x, true)
			} else if less, is := run.Drop(l, x); is {
				l = less
				mark(in[:], x, false)
			}
			n := 1 + r.IntN(bound/500)
			if at, rest, is := run.Take(l, n); is {
				l = rest
				mark(in[:], run.Run{At: at, Len: n}, false)
			}
			if !run.Right(l) || !slices.Equal(run.Pages(l), marked(in[:])) {
				t.Fatalf("seed %d: %v", seed, l)
			}
		}
		for len(l) > 0 {
			at, rest, is := run.Take(l, 1)
			if !is || at != l[0].At || run.Count(rest) != run.Count(l)-1 {
				t.Fatalf("seed %d: Take(%v, 1) is %d, %v", seed, l, at, is)
			}
			if rest, is = run.Drop(l, l[0]); !is {
				t.Fatalf("seed %d: Drop(%v, %v) told false", seed, l, l[0])
			}
			l = rest
		}
	}
}

func mark(in []bool, x run.Run, is bool) {
	for k := range x.Len {
		in[x.At+k] = is
	}
}

func marked(in []bool) []int {
	var l []int
	for page, is := range in {
		if is {
			l = append(l, page)
		}
	}
	return l
}
