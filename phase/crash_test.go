package phase_test

import (
	"fmt"
	"math/rand/v2"
	"testing"

	"regauge/api"
	"regauge/meta"
	"regauge/phase"
)

// fall has the disk go down at an op of a call, if it has as many, and goes on with what survives. It tells how many transactions of the call have come up, and the call's error.
func (w *world) fall(op int, keep []bool, call func() api.Errno) (int, api.Errno) {
	w.t.Helper()
	m := w.s.Meta()
	w.d.Arm(op)
	e := call()
	w.is(fmt.Sprint("the call tells ", e), e == api.OK && !w.d.Down() || e == api.ErrDown && w.d.Down())
	if e != api.OK {
		w.wantOf("down", api.ErrDown)
		w.wantNone("down", api.ErrDown)
	}
	w.d.Crash(keep)
	if e != api.OK {
		w.wantOf("up again", api.ErrDown)
		w.wantNone("up again", api.ErrDown)
	}
	*w = *w.loaded(w.d)
	w.look()
	return w.s.Meta().Txid - m.Txid, e
}

// Wherever the disk goes down in a Start, and whatever survives: the store has not begun to move, or it moves.
func TestP182Crash(t *testing.T) {
	t.Parallel()
	r := rand.New(rand.NewPCG(18, 2))
	each(func(g, target int) {
		for seed, keys := range []int{0, 2, 9, 60} {
			w := filled(t, seed, g, keys)
			told := map[int]int{}
			for op, e := 0, api.ErrDown; e != api.OK; op++ {
				for _, keep := range keeps(r) {
					c := w.copied()
					var n int
					n, e = c.fall(op, keep, func() api.Errno { return phase.Start(c.s, target) })
					c.wantStarted(w, n, e, target)
					told[n]++
					if n == 0 {
						n, e := c.fall(r.IntN(op+3), keep, func() api.Errno { return phase.Start(c.s, target) })
						c.wantStarted(w, n, e, target)
					}
					if r.IntN(6) == 0 {
						c.end(target)
					}
				}
			}
			w.is(fmt.Sprint("both come up: ", told), told[0] > 20 && told[1] > 13 && len(told) == 2)
		}
	})
}

// wantStarted holds the phase ahead of a Start, or behind it.
func (w *world) wantStarted(ahead *world, n int, e api.Errno, target int) {
	w.t.Helper()
	m, was := w.s.Meta(), ahead.s.Meta()
	if n == 0 {
		w.is(fmt.Sprint("it is as it was: ", m), e == api.ErrDown && meta.Same(m, was))
		return
	}
	w.is(fmt.Sprint("it moves: ", m), n == 1 && m.Phase == meta.Moving && m.Gen == was.Gen && m.Target == target && len(m.Cursor) == 0)
	w.is("the root is of the target's generation", w.look().gens[m.Root] == target)
}

// end goes on to the end of the move, from wherever it is.
func (w *world) end(target int) {
	w.t.Helper()
	if m := w.s.Meta(); m.Phase == meta.Stable && m.Gen < target {
		w.want("Start", phase.Start(w.s, target), api.OK)
	}
	if w.s.Meta().Phase == meta.Moving {
		w.sweep()
		w.want("Finish", phase.Finish(w.s), api.OK)
	} else {
		w.want("Finish", phase.Finish(w.s), api.ErrPhase)
		w.write(0)
	}
	w.look().wantEnded(w.what, target, w.has)
}

// Wherever the disk goes down in a Finish, and whatever survives: the store moves still, and may finish, or it is of the target's generation.
func TestP183Crash(t *testing.T) {
	t.Parallel()
	r := rand.New(rand.NewPCG(18, 3))
	each(func(g, target int) {
		for seed, keys := range []int{0, 2, 9, 60} {
			w := moving(t, seed, g, target, keys, true)
			told := map[int]int{}
			for op, e := 0, api.ErrDown; e != api.OK; op++ {
				for _, keep := range keeps(r) {
					c := w.copied()
					var n int
					n, e = c.fall(op, keep, func() api.Errno { return phase.Finish(c.s) })
					c.wantFinished(w, n, e, target)
					told[n]++
					if n == 0 {
						ahead := c.copied()
						n, e := c.fall(r.IntN(op+6), keep, func() api.Errno { return phase.Finish(c.s) })
						c.wantFinished(ahead, n, e, target)
					}
					c.end(target)
				}
			}
			w.is(fmt.Sprint("all of them come up: ", told), told[0] > 20 && told[1] > 20 && told[2] > 13 && len(told) == 3)
		}
	})
}

// wantFinished holds the phase ahead of a Finish, behind its first transaction, or behind both.
func (w *world) wantFinished(ahead *world, n int, e api.Errno, target int) {
	w.t.Helper()
	m, was := w.s.Meta(), ahead.s.Meta()
	w.is(fmt.Sprint("all was done: ", n), e == api.ErrDown || n == 2)
	switch n {
	case 0:
		w.is(fmt.Sprint("it is as it was: ", m), meta.Same(m, was))
	case 1, 2:
		w.is(fmt.Sprint("it is Stable: ", m), m.Phase == meta.Stable && m.Gen == target && m.Target == 0 && len(m.Cursor) == 0 && m.Root == was.Root)
	default:
		w.t.Fatal(w.what, ": there are ", n, " transactions")
	}
	if n == 2 {
		w.look().wantEnded(w.what, target, w.has)
	}
}

// Each sector of what a Finish, or a Start, writes last may survive, or not.
func TestP184EachSector(t *testing.T) {
	t.Parallel()
	each(func(g, target int) {
		for _, swept := range []bool{false, true} {
			w := filled(t, 2, g, 5)
			call := func(c *world) func() api.Errno {
				return func() api.Errno { return phase.Start(c.s, target) }
			}
			if swept {
				w = moving(t, 2, g, target, 5, true)
				call = func(c *world) func() api.Errno {
					return func() api.Errno { return phase.Finish(c.s) }
				}
			}
			for bits := range 32 {
				var keep []bool
				for k := range 5 {
					keep = append(keep, bits>>k&1 == 1)
				}
				for op, e := 0, api.ErrDown; e != api.OK; op++ {
					c := w.copied()
					var n int
					n, e = c.fall(op, keep, call(c))
					if swept {
						c.wantFinished(w, n, e, target)
					} else {
						c.wantStarted(w, n, e, target)
					}
				}
			}
		}
	})
}
