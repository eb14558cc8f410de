package run_test

import (
	"math"
	"math/rand/v2"
	"slices"
	"testing"

	"regauge/api"
	"regauge/run"
)

const bound = 2 * api.MaxPages

// row is the runs of pairs: where one begins, and how long it is.
func row(l ...int) []run.Run {
	var out []run.Run
	for pair := range slices.Chunk(l, 2) {
		out = append(out, run.Run{At: pair[0], Len: pair[1]})
	}
	return out
}

// noRuns are those that may not be, each for another reason.
var noRuns = row(
	-1, 1, -1, 2, -5, 3, math.MinInt, 1, math.MinInt, math.MaxInt, math.MinInt, math.MinInt,
	0, 0, 3, 0, 3, -1, 3, math.MinInt, bound, 0, 0, math.MinInt,
	bound, 1, bound-1, 2, 1, bound, 0, bound+1, bound+1, 1,
	0, math.MaxInt, 1, math.MaxInt, math.MaxInt, 1, math.MaxInt, math.MaxInt, 1<<62, 1<<62, math.MaxInt, 0,
)

// wrongRows are rows that are not right though each of their runs may be, and rows that have one run that may not.
func wrongRows() [][]run.Run {
	l := [][]run.Run{
		row(2, 1, 3, 1),          // no page between
		row(0, 3, 3, 2),          // likewise
		row(2, 3, 4, 1),          // one within the other
		row(2, 3, 3, 9),          // one over the other
		row(2, 1, 2, 1),          // twice
		row(5, 1, 2, 1),          // falling
		row(2, 1, 5, 1, 4, 9),    // the third one
		row(2, 1, 9, 1, 7, 1),    // likewise
		row(0, bound, 0, bound),  // all, twice
		row(0, bound-1, 3, 1),    // the second one within all others
		row(4, 2, 8, 2, 10, 1),   // the last two
		row(4, 2, 6, 1, 20, 100), // the first two
	}
	for _, x := range noRuns {
		l = append(l, []run.Run{x}, []run.Run{{At: 2, Len: 1}, x}, []run.Run{x, {At: 9, Len: 3}}, []run.Run{{At: 0, Len: 1}, x, {At: 20, Len: 3}})
	}
	return l
}

func wantRow(t *testing.T, what string, got, want []run.Run) {
	t.Helper()
	if !slices.Equal(got, want) {
		t.Errorf("%s: %v, want %v", what, got, want)
	}
}

// wantKept holds that a call told no, and the row as it was.
func wantKept(t *testing.T, what string, got []run.Run, is bool, want []run.Run) {
	t.Helper()
	if is {
		t.Errorf("%s: told true", what)
	}
	wantRow(t, what, got, want)
}

func TestP41Right(t *testing.T) {
	for _, l := range [][]run.Run{
		nil, {}, row(0, 1), row(0, 1, 2, 1), row(2, 3, 6, 1), row(5, 5, 11, 5, 17, 1),
		row(0, bound), row(bound-1, 1), row(1, bound-1), row(0, bound-2, bound-1, 1), row(0, 1, 2, bound-2),
	} {
		if !run.Right(l) {
			t.Errorf("%v is not right", l)
		}
	}
	for _, l := range wrongRows() {
		if run.Right(l) {
			t.Errorf("%v is right", l)
		}
	}
}

func TestP41Of(t *testing.T) {
	for _, x := range []struct {
		pages []int
		want  []run.Run
	}{
		{nil, nil},
		{[]int{}, nil},
		{[]int{0}, row(0, 1)},
		{[]int{3, 4, 5}, row(3, 3)},
		{[]int{5, 3, 4}, row(3, 3)},
		{[]int{9, 7, 3, 4, 8}, row(3, 2, 7, 3)},
		{[]int{2, 2, 2}, row(2, 1)},
		{[]int{4, 2, 4, 3, 2, 9, 9}, row(2, 3, 9, 1)},
		{[]int{1, 3, 5}, row(1, 1, 3, 1, 5, 1)},
		{[]int{-1, math.MinInt, bound, bound + 1, math.MaxInt}, nil},
		{[]int{-1, 0, bound - 1, bound}, row(0, 1, bound-1, 1)},
		{[]int{bound, bound - 1, -1, bound - 2}, row(bound-2, 2)},
	} {
		wantRow(t, "Of", run.Of(x.pages), x.want)
	}
}

func TestP41OfAllPages(t *testing.T) {
	var pages []int
	for k := -10; k < bound+10; k++ {
		pages = append(pages, k, k)
	}
	rand.New(rand.NewPCG(1, 4)).Shuffle(len(pages), func(i, j int) { pages[i], pages[j] = pages[j], pages[i] })
	was := slices.Clone(pages)
	wantRow(t, "all pages", run.Of(pages), row(0, bound))
	if !slices.Equal(pages, was) {
		t.Error("what was given is changed")
	}
}

func TestP41Tells(t *testing.T) {
	for _, x := range []struct {
		l     []run.Run
		pages []int
		end   int
	}{
		{nil, nil, 0},
		{row(0, 1), []int{0}, 1},
		{row(2, 3, 6, 1), []int{2, 3, 4, 6}, 7},
		{row(bound-2, 2), []int{bound - 2, bound - 1}, bound},
		{row(0, 2, 5, 1, bound-1, 1), []int{0, 1, 5, bound - 1}, bound},
	} {
		if got := run.Pages(x.l); !slices.Equal(got, x.pages) {
			t.Errorf("Pages(%v) is %v, want %v", x.l, got, x.pages)
		}
		if got := run.Count(x.l); got != len(x.pages) {
			t.Errorf("Count(%v) is %d, want %d", x.l, got, len(x.pages))
		}
		if got := run.End(x.l); got != x.end {
			t.Errorf("End(%v) is %d, want %d", x.l, got, x.end)
		}
		for _, page := range []int{math.MinInt, -1, 0, 1, 2, 3, 4, 5, 6, 7, 8, bound - 3, bound - 2, bound - 1, bound, math.MaxInt} {
			if got, want := run.Has(x.l, page), slices.Contains(x.pages, page); got != want {
				t.Errorf("Has(%v, %d) is %v", x.l, page, got)
			}
		}
	}
	if n := run.Count(row(0, bound)); n != bound {
		t.Errorf("Count of all is %d", n)
	}
	if n := len(run.Pages(row(0, bound))); n != bound {
		t.Errorf("Pages of all are %d", n)
	}
}

// A row that is not right has no pages, whatever it is asked.
func TestP4WrongRowIsNone(t *testing.T) {
	good, x := row(2, 3, 8, 2), run.Run{At: 4, Len: 2}
	for _, l := range wrongRows() {
		was := slices.Clone(l)
		if len(run.Pages(l)) != 0 || run.Count(l) != 0 || run.End(l) != 0 {
			t.Errorf("%v: %v, %d, %d", l, run.Pages(l), run.Count(l), run.End(l))
		}
		for _, page := range []int{-1, 0, 2, 3, 4, 9, bound - 1, bound} {
			if run.Has(l, page) {
				t.Errorf("%v has %d", l, page)
			}
		}
		got, is := run.Add(l, x)
		if !is {
			t.Errorf("Add(%v, %v) told false", l, x)
		}
		wantRow(t, "Add to a wrong row", got, []run.Run{x})
		got, is = run.Add(l, run.Run{At: 4, Len: 0})
		wantKept(t, "Add of no run", got, is, nil)
		got, is = run.Drop(l, run.Run{At: 2, Len: 1})
		wantKept(t, "Drop", got, is, nil)
		wantRow(t, "Union", run.Union(l, good), good)
		wantRow(t, "Union", run.Union(good, l), good)
		wantRow(t, "Union", run.Union(l, l), nil)
		if run.Meet(l, good) || run.Meet(good, l) || run.Meet(l, l) {
			t.Errorf("%v meets", l)
		}
		at, got, is := run.Take(l, 1)
		wantKept(t, "Take", got, is, nil)
		if at != 0 {
			t.Errorf("Take(%v, 1) told %d", l, at)
		}
		wantRow(t, "what was given", l, was)
	}
}

func TestP42Add(t *testing.T) {
	l := row(2, 3, 8, 2)
	for _, x := range []struct {
		at, n int
		want  []run.Run
	}{
		{0, 1, row(0, 1, 2, 3, 8, 2)},
		{0, 2, row(0, 5, 8, 2)},
		{1, 1, row(1, 4, 8, 2)},
		{5, 1, row(2, 4, 8, 2)},
		{6, 1, row(2, 3, 6, 1, 8, 2)},
		{6, 2, row(2, 3, 6, 4)},
		{7, 1, row(2, 3, 7, 3)},
		{5, 3, row(2, 8)},
		{10, 1, row(2, 3, 8, 3)},
		{11, 1, row(2, 3, 8, 2, 11, 1)},
		{10, bound - 10, row(2, 3, 8, bound-8)},
		{bound - 1, 1, row(2, 3, 8, 2, bound-1, 1)},
	} {
		got, is := run.Add(l, run.Run{At: x.at, Len: x.n})
		if !is {
			t.Errorf("Add of %d, %d told false", x.at, x.n)
		}
		wantRow(t, "Add", got, x.want)
	}
	got, is := run.Add(row(2, 2, 6, 1), run.Run{At: 4, Len: 2})
	if !is {
		t.Error("the chapter's example told false")
	}
	wantRow(t, "the chapter's example", got, row(2, 5))
	got, is = run.Add(nil, run.Run{At: 0, Len: bound})
	if !is {
		t.Error("all pages told false")
	}
	wantRow(t, "all pages", got, row(0, bound))
}

func TestP42AddRefuses(t *testing.T) {
	l := row(2, 3, 8, 2)
	there := row(2, 3, 2, 1, 4, 1, 3, 1, 4, 2, 1, 2, 0, 3, 8, 2, 9, 1, 9, 5, 5, 4, 7, 2, 1, 20, 0, bound)
	for _, x := range slices.Concat(there, noRuns) {
		got, is := run.Add(l, x)
		wantKept(t, "Add", got, is, l)
	}
	for _, x := range noRuns {
		got, is := run.Add(nil, x)
		wantKept(t, "Add to none", got, is, nil)
	}
}

func TestP42Drop(t *testing.T) {
	l := row(2, 3, 8, 2, 20, 1)
	for _, x := range []struct {
		at, n int
		want  []run.Run
	}{
		{2, 3, row(8, 2, 20, 1)},
		{8, 2, row(2, 3, 20, 1)},
		{20, 1, row(2, 3, 8, 2)},
		{2, 1, row(3, 2, 8, 2, 20, 1)},
		{2, 2, row(4, 1, 8, 2, 20, 1)},
		{3, 1, row(2, 1, 4, 1, 8, 2, 20, 1)},
		{3, 2, row(2, 1, 8, 2, 20, 1)},
		{4, 1, row(2, 2, 8, 2, 20, 1)},
		{8, 1, row(2, 3, 9, 1, 20, 1)},
		{9, 1, row(2, 3, 8, 1, 20, 1)},
	} {
		got, is := run.Drop(l, run.Run{At: x.at, Len: x.n})
		if !is {
			t.Errorf("Drop of %d, %d told false", x.at, x.n)
		}
		wantRow(t, "Drop", got, x.want)
	}
	for _, x := range []struct {
		at, n int
		want  []run.Run
	}{{0, bound, nil}, {0, 1, row(1, bound-1)}, {bound - 1, 1, row(0, bound-1)}, {7, 1, row(0, 7, 8, bound-8)}} {
		got, is := run.Drop(row(0, bound), run.Run{At: x.at, Len: x.n})
		if !is {
			t.Errorf("Drop of %d, %d from all told false", x.at, x.n)
		}
		wantRow(t, "Drop from all", got, x.want)
	}
}

func TestP42DropRefuses(t *testing.T) {
	l := row(2, 3, 8, 2, 20, 1)
	some := row(0, 1, 1, 1, 1, 2, 1, 4, 2, 4, 4, 2, 5, 1, 5, 3, 7, 2, 7, 4, 9, 2, 2, 8, 3, 6, 10, 1, 19, 2, 20, 2, 21, 1, 0, bound, bound-1, 1)
	for _, x := range slices.Concat(some, noRuns) {
		got, is := run.Drop(l, x)
		wantKept(t, "Drop", got, is, l)
	}
	for _, x := range slices.Concat(row(0, 1, 2, 1, 0, bound), noRuns) {
		got, is := run.Drop(nil, x)
		wantKept(t, "Drop from none", got, is, nil)
	}
	for _, x := range noRuns {
		got, is := run.Drop(row(0, bound), x)
		wantKept(t, "Drop from all", got, is, row(0, bound))
	}
}

func TestP42UnionMeet(t *testing.T) {
	for _, x := range []struct {
		a, b, union []run.Run
		meet        bool
	}{
		{nil, nil, nil, false},
		{nil, row(2, 1), row(2, 1), false},
		{row(2, 1), row(3, 1), row(2, 2), false},
		{row(2, 1), row(4, 1), row(2, 1, 4, 1), false},
		{row(2, 3), row(4, 3), row(2, 5), true},
		{row(2, 3), row(3, 1), row(2, 3), true},
		{row(2, 3), row(2, 3), row(2, 3), true},
		{row(2, 1, 4, 1, 6, 1), row(3, 1, 5, 1), row(2, 5), false},
		{row(2, 1, 4, 1, 6, 1), row(0, 20), row(0, 20), true},
		{row(2, 1, 9, 2), row(4, 3, 12, 1), row(2, 1, 4, 3, 9, 2, 12, 1), false},
		{row(2, 1, 9, 2), row(4, 3, 10, 1), row(2, 1, 4, 3, 9, 2), true},
		{row(2, 1, 9, 9), row(4, 3, 17, 4), row(2, 1, 4, 3, 9, 12), true},
		{row(0, bound), row(bound-1, 1), row(0, bound), true},
		{row(0, bound-1), row(bound-1, 1), row(0, bound), false},
	} {
		wantRow(t, "Union", run.Union(x.a, x.b), x.union)
		wantRow(t, "Union, the other way round", run.Union(x.b, x.a), x.union)
		if run.Meet(x.a, x.b) != x.meet || run.Meet(x.b, x.a) != x.meet {
			t.Errorf("Meet(%v, %v): want %v", x.a, x.b, x.meet)
		}
	}
}

func TestP43Take(t *testing.T) {
	l := row(2, 1, 5, 3, 10, 2, 20, 4)
	for _, x := range []struct {
		n, at int
		rest  []run.Run
	}{
		{1, 2, row(5, 3, 10, 2, 20, 4)},
		{2, 5, row(2, 1, 7, 1, 10, 2, 20, 4)},
		{3, 5, row(2, 1, 10, 2, 20, 4)},
		{4, 20, row(2, 1, 5, 3, 10, 2)},
	} {
		at, rest, is := run.Take(l, x.n)
		if at != x.at || !is {
			t.Errorf("Take(%d) told %d, %v, want %d", x.n, at, is, x.at)
		}
		wantRow(t, "Take", rest, x.rest)
	}
	at, rest, is := run.Take(row(0, bound), bound)
	if at != 0 || !is || len(rest) != 0 {
		t.Errorf("all pages: %d, %v, %v", at, rest, is)
	}
}

func TestP43TakeRefuses(t *testing.T) {
	for _, l := range [][]run.Run{nil, row(4, 1), row(2, 1, 5, 3, 10, 2, 20, 4)} {
		for _, n := range []int{math.MinInt, -2, -1, 0, 5, 10, bound, bound + 1, math.MaxInt} {
			at, rest, is := run.Take(l, n)
			if at != 0 {
				t.Errorf("Take(%v, %d) told %d", l, n, at)
			}
			wantKept(t, "Take", rest, is, l)
		}
	}
	at, rest, is := run.Take(row(0, bound), bound+1)
	if at != 0 {
		t.Errorf("more than all: %d", at)
	}
	wantKept(t, "more than all", rest, is, row(0, bound))
}

// No row that is told shares what was given, nor is that changed, though there be room behind it.
func TestP4GivenStays(t *testing.T) {
	whole := row(2, 3, 8, 2, 20, 4, 40, 1)
	other := row(1, 1, 5, 1)
	given, was := whole[:3], slices.Clone(whole)
	for k, f := range []func() []run.Run{
		func() []run.Run { l, _ := run.Add(given, run.Run{At: 5, Len: 3}); return l },
		func() []run.Run { l, _ := run.Add(given, run.Run{At: 24, Len: 1}); return l },
		func() []run.Run { l, _ := run.Add(given, run.Run{At: 26, Len: 1}); return l },
		func() []run.Run { l, _ := run.Add(given, run.Run{At: 2, Len: 1}); return l },
		func() []run.Run { l, _ := run.Add(given, run.Run{At: -2, Len: 1}); return l },
		func() []run.Run { l, _ := run.Drop(given, run.Run{At: 2, Len: 3}); return l },
		func() []run.Run { l, _ := run.Drop(given, run.Run{At: 3, Len: 1}); return l },
		func() []run.Run { l, _ := run.Drop(given, run.Run{At: 20, Len: 1}); return l },
		func() []run.Run { l, _ := run.Drop(given, run.Run{At: 0, Len: 1}); return l },
		func() []run.Run { l, _ := run.Drop(given, run.Run{At: 0, Len: 0}); return l },
		func() []run.Run { return run.Union(given, other) },
		func() []run.Run { return run.Union(other, given) },
		func() []run.Run { return run.Union(given, nil) },
		func() []run.Run { return run.Union(nil, given) },
		func() []run.Run { _, l, _ := run.Take(given, 1); return l },
		func() []run.Run { _, l, _ := run.Take(given, 2); return l },
		func() []run.Run { _, l, _ := run.Take(given, 9); return l },
		func() []run.Run { _, l, _ := run.Take(given, 0); return l },
	} {
		l := f()
		told := slices.Clone(l)
		for i := range l {
			l[i] = run.Run{At: 7, Len: 7}
		}
		_ = append(l, run.Run{At: 9, Len: 9})
		if !slices.Equal(whole, was) || !slices.Equal(other, row(1, 1, 5, 1)) {
			t.Fatalf("call %d: what was given is changed: %v, %v", k, whole, other)
		}
		wantRow(t, "the same call again", f(), told)
	}
}
