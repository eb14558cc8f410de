package disk_test

import (
	"bytes"
	"math"
	"slices"
	"testing"

	"regauge/api"
	"regauge/disk"
)

// fill is sectors, each of one byte again and again.
func fill(l ...byte) []byte {
	var out []byte
	for _, c := range l {
		out = append(out, bytes.Repeat([]byte{c}, api.Sector)...)
	}
	return out
}

// marked is n sectors no two bytes of which, close by, are the same.
func marked(n int) []byte {
	out := make([]byte, n*api.Sector)
	for i := range out {
		out[i] = byte(i%251 + 1)
	}
	return out
}

func wantErr(t *testing.T, what string, got, want api.Errno) {
	t.Helper()
	if got != want {
		t.Errorf("%s: told %d, want %d", what, got, want)
	}
}

func wantImage(t *testing.T, what string, d *disk.Disk, want []byte) {
	t.Helper()
	if got := d.Image(); !bytes.Equal(got, want) {
		t.Errorf("%s: image %v, want %v", what, heads(got), heads(want))
	}
}

// heads is the first byte of each sector, for a short message.
func heads(b []byte) []byte {
	var out []byte
	for i := 0; i < len(b); i += api.Sector {
		out = append(out, b[i])
	}
	return out
}

func wantRead(t *testing.T, what string, d *disk.Disk, at, many int, want []byte) {
	t.Helper()
	b, e := d.Read(at, many)
	if e != api.OK || !bytes.Equal(b, want) {
		t.Errorf("%s: Read(%d, %d) told %v, %d, want %v", what, at, many, heads(b), e, heads(want))
	}
}

func wantCounts(t *testing.T, what string, d *disk.Disk, size, pending, ops int, down bool) {
	t.Helper()
	if d.Size() != size || d.Pending() != pending || d.Ops() != ops || d.Down() != down {
		t.Errorf("%s: Size %d, Pending %d, Ops %d, Down %v, want %d, %d, %d, %v", what, d.Size(), d.Pending(), d.Ops(), d.Down(), size, pending, ops, down)
	}
}

func TestP11NewCutsTheLimit(t *testing.T) {
	for _, x := range [][2]int{{0, 0}, {1, 1}, {6, 6}, {-1, 0}, {math.MinInt, 0}, {api.MaxDisk - 1, api.MaxDisk - 1}, {api.MaxDisk, api.MaxDisk}, {api.MaxDisk + 1, api.MaxDisk}, {math.MaxInt, api.MaxDisk}} {
		for what, d := range map[string]*disk.Disk{"New": disk.New(x[0]), "Load": disk.Load(nil, x[0])} {
			if d.Limit() != x[1] {
				t.Errorf("%s(%d): Limit %d, want %d", what, x[0], d.Limit(), x[1])
			}
			wantCounts(t, what, d, 0, 0, 0, false)
			wantImage(t, what, d, nil)
		}
	}
}

func TestP11LoadTakesTheBytes(t *testing.T) {
	full := marked(4)
	for _, x := range []struct{ long, limit, size int }{
		{0, 4, 0}, {1, 4, 1}, {api.Sector - 1, 4, 1}, {api.Sector, 4, 1}, {api.Sector + 1, 4, 2}, {4 * api.Sector, 4, 4}, {4 * api.Sector, 9, 4},
		{4 * api.Sector, 3, 3}, {3*api.Sector + 1, 3, 3}, {4 * api.Sector, 0, 0}, {4 * api.Sector, -7, 0}, {4 * api.Sector, math.MaxInt, 4},
	} {
		d := disk.Load(full[:x.long], x.limit)
		want := make([]byte, x.size*api.Sector)
		copy(want, full[:x.long])
		wantCounts(t, "Load", d, x.size, 0, 0, false)
		wantImage(t, "Load", d, want)
		wantRead(t, "Load", d, 0, x.size, want)
	}
}

func TestP11LoadOfTheGreatestDisk(t *testing.T) {
	big := marked(api.MaxDisk + 1)
	d := disk.Load(big, math.MaxInt)
	if d.Size() != api.MaxDisk || d.Limit() != api.MaxDisk || !bytes.Equal(d.Image(), big[:api.MaxDisk*api.Sector]) {
		t.Error("more than MaxDisk sectors were taken, or others:", d.Size(), d.Limit())
	}
}

func TestP11WhatIsLoadedIsDurable(t *testing.T) {
	d := disk.Load(fill(1, 2), 2)
	d.Crash(nil)
	wantImage(t, "a crash behind Load", d, fill(1, 2))
}

func TestP11ImageIsAsReadsSee(t *testing.T) {
	d := disk.Load(fill(1, 2, 3), 3)
	d.Write(1, fill(7))
	wantImage(t, "ahead of Sync", d, fill(1, 7, 3))
	d.Arm(0)
	d.Write(2, fill(8))
	if !d.Down() {
		t.Fatal("it is not down")
	}
	wantImage(t, "while it is down", d, fill(1, 7, 8))
}

func TestP11BytesAreTheCallersOwn(t *testing.T) {
	image := fill(1, 2)
	d := disk.Load(image, 2)
	image[0] = 99
	wantImage(t, "Load", d, fill(1, 2))
	d.Image()[0] = 99
	wantImage(t, "Image", d, fill(1, 2))
	b, _ := d.Read(0, 2)
	b[0] = 99
	wantImage(t, "Read", d, fill(1, 2))
	in := fill(5)
	d.Write(0, in)
	if !bytes.Equal(in, fill(5)) {
		t.Error("Write changed what it was given")
	}
	in[0] = 99
	wantImage(t, "Write", d, fill(5, 2))
	d.Crash([]bool{true})
	wantImage(t, "the row", d, fill(5, 2))
	keep := []bool{true, false}
	d.Write(0, fill(6))
	d.Crash(keep)
	if !slices.Equal(keep, []bool{true, false}) {
		t.Error("Crash changed what it was given")
	}
}

func TestP11CopyIsJustSo(t *testing.T) {
	d := disk.Load(fill(1, 2, 3), 5)
	d.Write(0, fill(4, 5))
	d.Sync()
	d.Write(1, fill(6))
	d.Write(1, fill(7))
	d.Arm(1)
	c := d.Copy()
	if c.Limit() != 5 {
		t.Error("Limit:", c.Limit())
	}
	wantCounts(t, "the copy", c, 3, 2, 4, false)
	wantImage(t, "the copy", c, fill(4, 7, 3))
	wantErr(t, "an op ahead of the one armed", c.Write(2, fill(8)), api.OK)
	wantErr(t, "the one armed", c.Sync(), api.ErrDown)
	down := c.Copy()
	wantCounts(t, "the copy of one that is down", down, 3, 3, 6, true)
	c.Crash([]bool{true, false})
	wantImage(t, "the copy's crash", c, fill(4, 6, 8))
	down.Crash(nil)
	wantImage(t, "the other copy's crash", down, fill(4, 5, 3))
}

func TestP11CopyIsOfItsOwn(t *testing.T) {
	d := disk.Load(fill(1, 2), 9)
	d.Write(0, fill(3))
	c := d.Copy()
	c.Write(0, fill(4))
	c.Write(1, fill(5))
	c.Grow(9)
	wantCounts(t, "behind what the copy did", d, 2, 1, 1, false)
	wantImage(t, "behind what the copy did", d, fill(3, 2))
	d.Write(1, fill(6))
	d.Write(0, fill(7))
	c.Crash([]bool{true})
	wantImage(t, "the copy", c, fill(4, 5, 0, 0, 0, 0, 0, 0, 0))
	d.Crash(nil)
	wantImage(t, "the first one", d, fill(1, 2))
	c.Arm(0)
	c.Sync()
	if d.Down() || !c.Down() {
		t.Error("they go down together")
	}
	wantErr(t, "the first one", d.Sync(), api.OK)
}

func TestP11CopyHasARowOfItsOwn(t *testing.T) {
	for n := range 9 {
		d := disk.Load(fill(0), 1)
		for range n {
			d.Write(0, fill(1))
		}
		c := d.Copy()
		c.Write(0, fill(2))
		d.Write(0, fill(3))
		c.Crash([]bool{true})
		d.Crash([]bool{true})
		wantImage(t, "the copy", c, fill(2))
		wantImage(t, "the first one", d, fill(3))
	}
}

func TestP12Grow(t *testing.T) {
	d := disk.Load(fill(1), 5)
	for _, x := range []struct {
		n    int
		e    api.Errno
		size int
	}{{0, api.OK, 1}, {3, api.OK, 3}, {2, api.OK, 3}, {-1, api.OK, 3}, {math.MinInt, api.OK, 3}, {6, api.ErrFull, 3}, {math.MaxInt, api.ErrFull, 3}, {5, api.OK, 5}, {5, api.OK, 5}} {
		wantErr(t, "Grow", d.Grow(x.n), x.e)
		wantCounts(t, "Grow", d, x.size, 0, 0, false)
	}
	wantImage(t, "Grow", d, fill(1, 0, 0, 0, 0))
	wantErr(t, "Grow of a disk of none", disk.New(0).Grow(0), api.OK)
	wantErr(t, "Grow of a disk of none", disk.New(0).Grow(1), api.ErrFull)
}

func TestP12GrowIsDurableAtOnceAndNoOp(t *testing.T) {
	d := disk.Load(fill(1), 5)
	d.Arm(0)
	wantErr(t, "Grow of an armed disk", d.Grow(3), api.OK)
	wantCounts(t, "Grow of an armed disk", d, 3, 0, 0, false)
	d.Crash(nil)
	wantCounts(t, "behind a crash", d, 3, 0, 0, false)
	wantImage(t, "behind a crash", d, fill(1, 0, 0))
	d.Write(2, fill(9))
	d.Grow(5)
	d.Crash(nil)
	wantImage(t, "what was written is lost, what was grown is not", d, fill(1, 0, 0, 0, 0))
}

func TestP12ReadSeesTheLastWrite(t *testing.T) {
	d := disk.New(4)
	d.Grow(4)
	d.Write(0, fill(1, 2))
	wantRead(t, "written", d, 0, 4, fill(1, 2, 0, 0))
	d.Write(1, fill(3, 4))
	wantRead(t, "written again", d, 0, 4, fill(1, 3, 4, 0))
	wantRead(t, "a part", d, 1, 2, fill(3, 4))
	d.Sync()
	wantRead(t, "synced", d, 0, 4, fill(1, 3, 4, 0))
	whole := marked(3)
	d.Write(1, whole)
	wantRead(t, "each byte at its place", d, 1, 3, whole)
	wantRead(t, "one sector", d, 2, 1, whole[api.Sector:2*api.Sector])
}

func TestP12ReadRange(t *testing.T) {
	d := disk.Load(fill(1, 2, 3, 4), 9)
	for _, x := range []struct {
		at, many int
		e        api.Errno
	}{
		{0, 0, api.OK}, {2, 0, api.OK}, {4, 0, api.OK}, {3, 1, api.OK}, {0, 4, api.OK},
		{4, 1, api.ErrRange}, {0, 5, api.ErrRange}, {3, 2, api.ErrRange}, {-1, 1, api.ErrRange}, {-1, 2, api.ErrRange}, {5, 0, api.ErrRange}, {-1, 0, api.ErrRange}, {0, -1, api.ErrRange}, {2, -1, api.ErrRange},
		{math.MaxInt, 1, api.ErrRange}, {1, math.MaxInt, api.ErrRange}, {math.MaxInt, math.MaxInt, api.ErrRange}, {math.MinInt, 1, api.ErrRange}, {0, math.MinInt, api.ErrRange}, {math.MinInt, math.MinInt, api.ErrRange}, {1 << 62, 1 << 62, api.ErrRange},
	} {
		b, e := d.Read(x.at, x.many)
		wantErr(t, "Read", e, x.e)
		if e == api.OK && len(b) != x.many*api.Sector || e != api.OK && len(b) != 0 {
			t.Error("Read:", x.at, x.many, "told bytes:", len(b))
		}
	}
	wantCounts(t, "reads are no ops", d, 4, 0, 0, false)
}

func TestP12WriteRefuses(t *testing.T) {
	d := disk.Load(fill(1, 2, 3), 9)
	for _, x := range []struct {
		at int
		b  []byte
		e  api.Errno
	}{
		{0, nil, api.ErrArg}, {0, []byte{}, api.ErrArg}, {0, make([]byte, 1), api.ErrArg}, {0, make([]byte, api.Sector-1), api.ErrArg}, {0, make([]byte, api.Sector+1), api.ErrArg},
		{3, fill(9), api.ErrRange}, {2, fill(9, 9), api.ErrRange}, {0, fill(9, 9, 9, 9), api.ErrRange}, {-1, fill(9), api.ErrRange}, {-1, fill(9, 9), api.ErrRange}, {math.MaxInt, fill(9), api.ErrRange}, {math.MinInt, fill(9), api.ErrRange},
		{-1, nil, api.ErrArg}, {7, make([]byte, 1), api.ErrArg},
	} {
		d.Arm(0)
		wantErr(t, "Write", d.Write(x.at, x.b), x.e)
		wantCounts(t, "a write that is refused is no op", d, 3, 0, 0, false)
	}
	wantImage(t, "Write", d, fill(1, 2, 3))
}

func TestP12OpsAndPending(t *testing.T) {
	d := disk.Load(fill(1, 2, 3), 9)
	wantErr(t, "Write", d.Write(0, fill(4, 5, 6)), api.OK)
	wantCounts(t, "three sectors are one op", d, 3, 3, 1, false)
	wantErr(t, "Write", d.Write(0, fill(4)), api.OK)
	wantCounts(t, "a sector that is written again is one more write", d, 3, 4, 2, false)
	wantErr(t, "Sync", d.Sync(), api.OK)
	wantCounts(t, "Sync", d, 3, 0, 3, false)
	wantErr(t, "Sync", d.Sync(), api.OK)
	wantCounts(t, "a Sync of nothing is an op", d, 3, 0, 4, false)
	d.Write(1, fill(7))
	d.Crash(nil)
	wantCounts(t, "a crash is no op, and ops are counted on", d, 3, 0, 5, false)
}

func TestP12SyncMakesDurable(t *testing.T) {
	d := disk.Load(fill(1, 2, 3), 9)
	d.Write(0, fill(4, 5))
	d.Write(1, fill(6))
	d.Sync()
	d.Crash(nil)
	wantImage(t, "behind Sync the last write is durable", d, fill(4, 6, 3))
}

func TestP12DownComesFirst(t *testing.T) {
	d := disk.Load(fill(1, 2), 4)
	d.Arm(0)
	d.Sync()
	for _, x := range []struct {
		what string
		e    api.Errno
	}{
		{"Grow", d.Grow(3)}, {"Grow to less", d.Grow(0)}, {"Grow above the limit", d.Grow(5)},
		{"Write", d.Write(0, fill(9))}, {"Write of nothing", d.Write(0, nil)}, {"Write beyond", d.Write(9, fill(9))},
		{"Sync", d.Sync()},
	} {
		wantErr(t, x.what, x.e, api.ErrDown)
	}
	for _, x := range [][2]int{{0, 1}, {0, 0}, {9, 9}, {-1, 1}} {
		b, e := d.Read(x[0], x[1])
		wantErr(t, "Read", e, api.ErrDown)
		if len(b) != 0 {
			t.Error("Read told bytes of a disk that is down")
		}
	}
	wantCounts(t, "nothing was done", d, 2, 0, 1, true)
	wantImage(t, "nothing was done", d, fill(1, 2))
}

func TestP13ArmCountsOps(t *testing.T) {
	for n := range 5 {
		for _, sync := range []bool{false, true} {
			d := disk.Load(fill(0, 0), 3)
			d.Arm(n)
			for i := range n {
				wantErr(t, "ahead of it", d.Write(0, fill(byte(i+1))), api.OK)
				d.Read(0, 1)
				d.Grow(3)
				d.Write(9, fill(1))
			}
			if sync {
				wantErr(t, "the Sync", d.Sync(), api.ErrDown)
				wantCounts(t, "the Sync", d, max(2, min(3, n+2)), n, n+1, true)
				continue
			}
			wantErr(t, "the Write", d.Write(0, fill(9, 9)), api.ErrDown)
			wantCounts(t, "the Write", d, max(2, min(3, n+2)), n+2, n+1, true)
		}
	}
}

func TestP13ArmBelowZeroDisarms(t *testing.T) {
	for _, n := range []int{-1, -2, math.MinInt} {
		d := disk.Load(fill(0), 1)
		d.Arm(0)
		d.Arm(n)
		for range 9 {
			wantErr(t, "Sync", d.Sync(), api.OK)
		}
	}
}

func TestP13ArmAnew(t *testing.T) {
	d := disk.Load(fill(0), 1)
	d.Arm(1)
	d.Sync()
	d.Arm(1)
	wantErr(t, "it counts from the last Arm on", d.Sync(), api.OK)
	wantErr(t, "it counts from the last Arm on", d.Sync(), api.ErrDown)
	d = disk.Load(fill(0), 1)
	d.Arm(math.MaxInt)
	for range 9 {
		wantErr(t, "far off", d.Sync(), api.OK)
	}
}

func TestP13ATornWriteStandsInTheRow(t *testing.T) {
	for _, x := range []struct {
		keep []bool
		want []byte
	}{{nil, fill(1, 2, 3)}, {[]bool{true}, fill(4, 5, 6)}, {[]bool{true, false}, fill(4, 2, 6)}, {[]bool{false, true}, fill(1, 5, 3)}} {
		d := disk.Load(fill(1, 2, 3), 3)
		d.Arm(0)
		wantErr(t, "Write", d.Write(0, fill(4, 5, 6)), api.ErrDown)
		wantCounts(t, "Write", d, 3, 3, 1, true)
		d.Crash(x.keep)
		wantCounts(t, "Crash", d, 3, 0, 1, false)
		wantImage(t, "Crash", d, x.want)
	}
}

func TestP13ATornSyncMakesNothingDurable(t *testing.T) {
	d := disk.Load(fill(1, 2), 2)
	d.Write(0, fill(3, 4))
	d.Arm(0)
	wantErr(t, "Sync", d.Sync(), api.ErrDown)
	wantCounts(t, "Sync", d, 2, 2, 2, true)
	c := d.Copy()
	d.Crash(nil)
	wantImage(t, "none kept", d, fill(1, 2))
	c.Crash([]bool{false, true})
	wantImage(t, "the other one kept", c, fill(1, 4))
}

func TestP13CrashKeepsInOrder(t *testing.T) {
	for _, x := range []struct {
		keep []bool
		want []byte
	}{
		{nil, fill(0, 0, 0)}, {[]bool{}, fill(0, 0, 0)}, {[]bool{false}, fill(0, 0, 0)}, {[]bool{true}, fill(5, 4, 3)},
		{[]bool{true, false}, fill(5, 0, 3)}, {[]bool{false, true}, fill(0, 4, 0)}, {[]bool{true, true, true, false, false}, fill(1, 2, 3)},
		{[]bool{false, false, true}, fill(0, 0, 3)}, {[]bool{true, false, false}, fill(1, 4, 0)}, {[]bool{false, false, false, false, true, true, true}, fill(5, 0, 0)},
	} {
		d := disk.Load(fill(0, 0, 0), 3)
		d.Write(0, fill(1, 2, 3))
		d.Write(1, fill(4))
		d.Write(0, fill(5))
		d.Crash(x.keep)
		wantImage(t, "Crash", d, x.want)
		wantRead(t, "Crash", d, 0, 3, x.want)
		wantCounts(t, "Crash", d, 3, 0, 3, false)
		d.Crash([]bool{true})
		wantImage(t, "what was lost stays lost", d, x.want)
	}
}

func TestP13CrashDisarms(t *testing.T) {
	d := disk.Load(fill(1), 1)
	d.Arm(0)
	d.Crash(nil)
	wantErr(t, "Sync", d.Sync(), api.OK)
	d.Arm(0)
	d.Sync()
	d.Arm(0)
	d.Crash(nil)
	wantErr(t, "armed while it was down", d.Sync(), api.OK)
}

func TestP13OnceItIsUpNothingIsArmed(t *testing.T) {
	d := disk.Load(fill(1), 1)
	d.Arm(0)
	d.Sync()
	d.Crash(nil)
	for range 5 {
		wantErr(t, "Sync", d.Sync(), api.OK)
	}
}

func TestP14WhatWasSyncedSurvives(t *testing.T) {
	for _, keep := range [][]bool{nil, {false}, {true}, {true, false}, {false, true}} {
		d := disk.Load(fill(0, 0, 0), 3)
		d.Write(0, fill(1, 2))
		d.Sync()
		d.Write(2, fill(3))
		d.Crash(keep)
		wantRead(t, "synced", d, 0, 2, fill(1, 2))
		d.Arm(0)
		d.Write(2, fill(4))
		d.Crash(keep)
		wantRead(t, "again", d, 0, 2, fill(1, 2))
	}
}

func TestP14ALaterWriteMaySurvive(t *testing.T) {
	d := disk.Load(fill(0), 1)
	d.Write(0, fill(1))
	d.Sync()
	d.Write(0, fill(2))
	c := d.Copy()
	d.Crash(nil)
	wantImage(t, "lost", d, fill(1))
	c.Crash([]bool{true})
	wantImage(t, "kept", c, fill(2))
	c.Crash(nil)
	wantImage(t, "what a crash kept is durable", c, fill(2))
}

func TestP14ACrashThatKeepsAllLosesNothing(t *testing.T) {
	d := disk.Load(fill(0, 0, 0), 3)
	d.Write(0, fill(1, 2))
	d.Sync()
	d.Write(1, marked(2))
	d.Write(1, fill(4))
	want := d.Image()
	d.Crash([]bool{true, true})
	wantImage(t, "all kept", d, want)
	d.Crash(nil)
	wantImage(t, "and durable", d, want)
}
