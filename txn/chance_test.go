package txn_test

import (
	"fmt"
	"testing"

	"regauge/api"
	"regauge/meta"
	"regauge/pager"
	"regauge/run"
	"regauge/shelf"
)

// Calls by chance, as the model has them: all that is told, and each file behind a commit, page by page.
func TestP176ByChance(t *testing.T) {
	t.Parallel()
	told := map[string]int{}
	for seed := range 90 {
		g := 1 + seed%3
		sizes := [][]int{{5, 32, 33}, {40, 100, 247, 248, 249, 400, 401}, {32, 240, 241, 480, 800, 801, 1600, 1601}}[seed/3%3]
		w := newWorld(t, seed, g, []int{80, 400, 4000, 20000}[seed%4], []int{6, 30, 200}[seed/2%3], sizes)
		for range 500 {
			w.step()
		}
		for what, n := range w.told {
			told[what] += n
		}
	}
	for _, what := range []string{
		"Begin 160", "Commit 0", "Commit 12", "Commit 160", "Put 0", "Put 50", "Put 51", "Put 160", "Drop 160", "Touch 0", "Touch 160",
		"Turn 0", "Turn 92", "Turn 160", "Turn 180", "Rollback 0", "Rollback 160", "Open 0", "Close 0", "crash 0", "crash 1",
		"depth 1", "depth 2", "depth 3", "list of 0", "list of 1", "list of 2", "list of 3", "list of 4", "list of 5", "old true",
		"phase 0 of 1", "phase 0 of 2", "phase 0 of 3", "phase 1 of 1", "phase 1 of 2", "snapshots 0", "snapshots 1", "snapshots 4",
	} {
		if told[what] < 40 {
			t.Error("the calls are too much alike: ", what, ": ", told[what])
		}
	}
}

// Many values, of which each second one goes: their list has floors, and the pages are used again.
func TestP176GreatList(t *testing.T) {
	t.Parallel()
	for g := api.G1; g <= api.G3; g++ {
		w := newWorld(t, g, g, api.MaxDisk, 0, nil)
		key := func(k int) string { return fmt.Sprintf("%05d", k) }
		fill := func(from, step, size int) {
			w.begin()
			for k := from; k < 1400; k += step {
				w.put(key(k), text(k, size))
			}
			w.commit()
		}
		fill(0, 1, 40)
		w.begin()
		for k := 0; k < 1400; k += 2 {
			w.drop(key(k))
		}
		w.commit()
		w.begin()
		w.commit()
		w.is(fmt.Sprint("a long list: ", len(w.m.r.List)), len(w.m.r.List) >= []int{0, 11, 24, 40}[g])
		pages := w.m.r.M.Pages
		w.snap()
		fill(0, 2, 200)
		w.is("pages are used again", w.m.r.M.Pages <= pages+12)
		fill(1, 3, 300)
		fill(1, 3, 250)
	}
}

// greatest is a file of nearly as many pages as there may be, all but two of them held.
func greatest(t *testing.T, pages int) *world {
	t.Helper()
	w := newWorld(t, pages, api.G3, api.MaxDisk, 0, nil)
	list, e := shelf.Encode(api.G3, shelf.State{Held: []run.Run{{At: 4, Len: pages - 4}}}, []int{3})
	must(e)
	m := meta.Meta{Gen: api.G3, Txid: 8, Root: 2, Pages: pages, List: 3}
	must(pager.New(w.d).Format([]pager.Write{{Id: 2, B: emptyLeaf(api.G3)}, {Id: 3, B: list[0]}}, m))
	w.reopen(w.m.has)
	w.m.ahead = w.m.r
	return w
}

// There are no more pages than MaxPages: a root, a value of two or three, and a list have room, or have not.
func TestP174GreatestFile(t *testing.T) {
	t.Parallel()
	for but := range 7 {
		for _, size := range []int{400, 500} {
			w := greatest(t, api.MaxPages-but)
			w.begin()
			w.put("a", text(1, size))
			w.commit()
			w.is("it has room just if there are as many pages left", w.s.Busy() == (but < 4 || but == 4 && size == 500))
			if !w.s.Busy() {
				w.begin()
			}
			w.drop("a")
			w.put("b", "")
			w.commit()
			w.is("it is full still", w.s.Busy() == (but < 2))
		}
	}
}
