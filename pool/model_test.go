package pool_test

import (
	"slices"
	"testing"

	"regauge/api"
	"regauge/pool"
	"regauge/run"
	"regauge/shelf"
)

// What a page is that no transaction holds. (Of one that is held it is the transaction.)
const (
	used = -2
	free = -1
)

// plain is a pool, told page by page.
type plain struct {
	marks []int
	limit int
}

// runsOf is the runs of the pages whose marks are asked for.
func runsOf(marks []int, is func(mark int) bool) []run.Run {
	var l []run.Run
	for page, mark := range marks {
		switch {
		case !is(mark):
		case page > 0 && is(marks[page-1]):
			l[len(l)-1].Len++
		default:
			l = append(l, run.Run{At: page, Len: 1})
		}
	}
	return l
}

func isFree(mark int) bool { return mark == free }

func isHeld(mark int) bool { return mark >= 0 }

func (m *plain) free() []run.Run { return runsOf(m.marks, isFree) }

func (m *plain) held() []run.Run { return runsOf(m.marks, isHeld) }

// newPlain has each page of a state marked; none, if one can't be, or is marked already, or if two runs are to be one.
func newPlain(s shelf.State, txid, pages, limit int) *plain {
	if pages < 2 || pages > limit || limit > 1<<14 || txid < 0 {
		return nil
	}
	m := &plain{make([]int, pages), limit}
	for page := range m.marks {
		m.marks[page] = used
	}
	for k, l := range [][]run.Run{s.Free, s.Held} {
		for j, r := range l {
			if r.Len < 1 || r.Len > pages || j > 0 && r.At <= l[j-1].At+l[j-1].Len {
				return nil
			}
			for page := r.At; page < r.At+r.Len; page++ {
				if page < 2 || page >= pages || m.marks[page] != used {
					return nil
				}
				m.marks[page] = []int{free, txid}[k]
			}
		}
	}
	return m
}

// take tries each page in turn, from the first one on.
func (m *plain) take(n int) (int, api.Errno) {
	if n < 1 {
		return 0, api.ErrArg
	}
	for at := 2; at < len(m.marks) && n <= len(m.marks)-at; at++ {
		if !slices.ContainsFunc(m.marks[at:at+n], func(mark int) bool { return mark != free }) {
			m.set(run.Run{At: at, Len: n}, used)
			return at, api.OK
		}
	}
	at := len(m.marks)
	for at > 2 && m.marks[at-1] == free {
		at--
	}
	return m.extend(at, n)
}

func (m *plain) grow(n int) (int, api.Errno) {
	if n < 1 {
		return 0, api.ErrArg
	}
	return m.extend(len(m.marks), n)
}

func (m *plain) extend(at, n int) (int, api.Errno) {
	if n > 1<<20 || at+n > m.limit {
		return 0, api.ErrFull
	}
	for len(m.marks) < at+n {
		m.marks = append(m.marks, used)
	}
	m.set(run.Run{At: at, Len: n}, used)
	return at, api.OK
}

func (m *plain) set(x run.Run, mark int) {
	for k := range x.Len {
		m.marks[x.At+k] = mark
	}
}

func (m *plain) give(txid int, x run.Run) api.Errno {
	if txid < 0 || x.At < 2 || x.At > len(m.marks) || x.Len < 1 || x.Len > len(m.marks) || x.At+x.Len > len(m.marks) {
		return api.ErrArg
	}
	for k := range x.Len {
		if m.marks[x.At+k] != used {
			return api.ErrPoolTwice
		}
	}
	m.set(x, txid)
	return api.OK
}

func (m *plain) settle(txid, oldest int) {
	for page, mark := range m.marks {
		if mark >= 0 && mark <= oldest && txid > mark && txid-mark >= 2 {
			m.marks[page] = free
		}
	}
}

func (m *plain) state(txid int) shelf.State {
	mine := func(mark int) bool { return isHeld(mark) && mark == txid }
	return shelf.State{
		Free: runsOf(m.marks, func(mark int) bool { return mark != used && !mine(mark) }),
		Held: runsOf(m.marks, mine),
	}
}

func (m *plain) copy() *plain {
	return &plain{slices.Clone(m.marks), m.limit}
}

// wantPool holds a pool against a plain one, in all that it tells.
func wantPool(t *testing.T, what string, p *pool.Pool, m *plain, txids ...int) {
	t.Helper()
	if p.Pages() != len(m.marks) || !slices.Equal(p.Free(), m.free()) || !slices.Equal(p.Held(), m.held()) {
		t.Fatalf("%s: %d pages, free %v, held %v; want %d, %v, %v", what, p.Pages(), p.Free(), p.Held(), len(m.marks), m.free(), m.held())
	}
	for _, txid := range txids {
		if got, want := p.State(txid), m.state(txid); !shelf.Same(got, want) || !shelf.Right(got) {
			t.Fatalf("%s: State(%d) is %v, want %v", what, txid, got, want)
		}
	}
}

// eachMarks goes through all rows of so many pages behind the metas that are each in use, free, or held by a transaction.
func eachMarks(pages, txid int, f func(marks []int)) {
	all := 1
	for range pages {
		all *= 3
	}
	for k := range all {
		marks := []int{used, used}
		for range pages {
			marks = append(marks, []int{used, free, txid}[k%3])
			k /= 3
		}
		f(marks)
	}
}

// made is a pool, and a plain one, of such pages.
func made(t *testing.T, marks []int, txid, limit int) (*pool.Pool, *plain) {
	t.Helper()
	m := &plain{slices.Clone(marks), limit}
	p, e := pool.New(shelf.State{Free: m.free(), Held: m.held()}, txid, len(marks), limit)
	if e != api.OK || p == nil {
		t.Fatalf("New of %v, limit %d: %d", marks, limit, e)
	}
	return p, m
}

// eachPool goes through pools of all such rows, each with limits at its end and behind it.
func eachPool(t *testing.T, pages int, f func(p *pool.Pool, m *plain)) {
	eachMarks(pages, 5, func(marks []int) {
		for more := range 4 {
			p, m := made(t, marks, 5, len(marks)+more)
			f(p, m)
		}
	})
}
