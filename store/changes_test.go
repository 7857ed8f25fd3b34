package store_test

import (
	"math"
	"slices"
	"testing"

	"nand/api"
	"nand/chip"
	"nand/flash"
	"nand/store"
)

// changed: a chip with the directory d, as it stands behind so many changes.
func changed(t *testing.T, c *chip.Chip, many uint32) *chip.Chip {
	t.Helper()
	if e := flash.Build(c, []api.Item{{Path: "d", Dir: true}}); e != api.OK {
		t.Fatalf("Build = %d", e)
	}
	if e := store.RenewAt(c, many, store.Records(c)[0].Text); e != api.OK {
		t.Fatalf("RenewAt = %d", e)
	}
	return c
}

// mount: what is on a chip.
func mount(t *testing.T, c *chip.Chip) *flash.FS {
	t.Helper()
	f, e := flash.Mount(c)
	if e != api.OK {
		t.Fatalf("Mount = %d", e)
	}
	return f
}

// is: there is the directory d with this time, or, if it is -1, nothing.
func is(f *flash.FS, time int) bool {
	if time < 0 {
		return len(f.Tree()) == 0
	}
	return slices.Equal(f.Tree(), []api.Item{{Path: "d", Dir: true, Time: time}})
}

// change makes change number i, of which each seventh takes d away, and the next makes it again; what the time of d is then is told.
func change(f *flash.FS, i int) (int, api.Errno) {
	switch i % 7 {
	case 5:
		return -1, f.Remove("d")
	case 6:
		return 0, f.Mkdir("d")
	}
	return 1 + i%2, f.Attr("d", 0, 1+i%2)
}

// TestP13Changes: however many changes there were, one for which there is room is answered with OK, and is found.
func TestP13Changes(t *testing.T) {
	for _, many := range []uint32{math.MaxUint32 - 500, math.MaxUint32 - 60, math.MaxUint32 - 2, math.MaxUint32, 1<<31 - 60} {
		for _, bad := range [][]int{nil, {0, 6}} {
			c := changed(t, chip.New(4+len(bad)*2, 16, bad), many)
			f := mount(t, c)
			for i := range 1000 {
				time, e := change(f, i)
				if e != api.OK {
					t.Fatalf("change %d behind %d = %d", i, many, e)
				}
				if !is(f, time) || !is(mount(t, c), time) {
					t.Fatalf("change %d behind %d is not found", i, many)
				}
				if i%100 == 99 {
					f = mount(t, c)
				}
			}
		}
	}
}

// way: a chip on the way round, and what is sure on it.
type way struct {
	t    *testing.T
	c    *chip.Chip
	f    *flash.FS
	sure int  // the time of d
	anew bool // where the power went, it is mounted anew
	went bool // the power went
}

// does makes change number i, and tells whether it was made. If not, the power went in it, and comes back; what was sure is found, or the change too.
func (w *way) does(i int) bool {
	w.t.Helper()
	time, e := change(w.f, i)
	if e == api.OK {
		w.sure = time
		return true
	}
	if e != api.ErrDev || !w.c.Dead() || !is(w.f, w.sure) {
		w.t.Fatalf("change %d = %d, dead: %v", i, e, w.c.Dead())
	}
	w.went = true
	w.c.Power()
	found := mount(w.t, w.c)
	if w.anew || is(found, time) {
		w.f = found
	}
	switch {
	case is(found, time):
		w.sure = time
		return true
	case !is(found, w.sure):
		w.t.Fatalf("%v is found behind change %d", found.Tree(), i)
	}
	return false
}

// ends: what is sure is found at last.
func (w *way) ends() {
	w.t.Helper()
	w.c.Power()
	if !is(mount(w.t, w.c), w.sure) {
		w.t.Fatalf("%v is found at last", mount(w.t, w.c).Tree())
	}
}

// onWay: the ways on which the power goes, each long enough to come round in its midst, with how many changes it has.
func onWay(t *testing.T, do func(begin func() *way, changes int)) {
	for _, pages := range []int{4, 16} {
		for _, anew := range []bool{false, true} {
			do(func() *way {
				c := changed(t, chip.New(4, pages, nil), math.MaxUint32-uint32(5*pages))
				return &way{t: t, c: c, f: mount(t, c), anew: anew}
			}, 10*pages)
		}
	}
}

// TestP12Changes: the power goes at one call of the chip on the way, whichever; what was sure is found, and all goes on.
func TestP12Changes(t *testing.T) {
	onWay(t, func(begin func() *way, changes int) {
		went := true
		for behind := 0; went; behind++ {
			went = false
			for cut := behind % 5; cut < chip.Size; cut += 9 {
				w := begin()
				w.c.Die(behind, cut)
				for i := range changes {
					for !w.does(i) {
					}
				}
				w.ends()
				went = went || w.went
			}
		}
	})
}

// TestP12EachCall: the power goes at every call of the chip on the way, one after the other.
func TestP12EachCall(t *testing.T) {
	onWay(t, func(begin func() *way, changes int) {
		for cut := 0; cut < chip.Size; cut += 7 {
			w := begin()
			for i := range changes {
				w.c.Die(0, cut)
				for behind := 1; !w.does(i); behind++ {
					w.c.Die(behind, cut)
				}
			}
			w.ends()
		}
	})
}
