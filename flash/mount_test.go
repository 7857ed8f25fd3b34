package flash_test

import (
	"math/rand"
	"slices"
	"strings"
	"testing"

	"nand/api"
	"nand/chip"
	"nand/flash"
	"nand/store"
	"nand/trees"
)

func TestP8Errors(t *testing.T) {
	noChip := new(chip.Chip)
	noChip.Power()
	bare := chip.New(4, 4, nil)
	full := built(t, chip.New(4, 4, nil), file("a", "x"))
	zeros, ones := bare.Copy(), bare.Copy()
	for i := range 16 {
		zeros.Scribble(i/4, i%4, strings.Repeat("\x00", 64))
		ones.Scribble(i/4, i%4, strings.Repeat("\xff", 64))
	}
	for k, x := range []struct {
		c    *chip.Chip
		want api.Errno
	}{{nil, api.ErrArg}, {new(chip.Chip), api.ErrDev}, {noChip, api.ErrChip}, {bare, api.ErrChip}, {killed(bare.Copy()), api.ErrDev}, {killed(full.Copy()), api.ErrDev}, {zeros, api.ErrChip}, {ones, api.ErrChip}, {chip.New(4, 4, []int{0, 1, 2, 3}), api.ErrChip}} {
		if f, e := flash.Mount(x.c); f != nil || e != x.want {
			t.Errorf("case %d: Mount = %v, %d, want %d", k, f, e, x.want)
		}
	}
}

// TestP8Leaves: Mount, Tree, Read and List do not program or erase, and the last three answer without power.
func TestP8Leaves(t *testing.T) {
	l := []api.Item{dir("d"), file("d/f", "x"), file("e", strings.Repeat("y", 300))}
	c := built(t, chip.New(6, 6, []int{4}), l...)
	was := image(c)
	c.Die(0, 0)
	f := mount(t, c)
	ask := func() {
		t.Helper()
		names, e := f.List("d")
		data, g := f.Read("d/f")
		if !slices.Equal(f.Tree(), l) || !slices.Equal(names, []string{"f"}) || e != api.OK || data != "x" || g != api.OK {
			t.Errorf("Tree() = %+v, List = %q, %d, Read = %q, %d", f.Tree(), names, e, data, g)
		}
	}
	ask()
	if c.Dead() || !slices.Equal(image(c), was) {
		t.Errorf("something was done to the chip (dead: %v)", c.Dead())
	}
	killed(c)
	ask()
	if !c.Dead() {
		t.Error("there is power")
	}
}

// TestP8Sure: what was built is found again and again, whether the power went or not.
func TestP8Sure(t *testing.T) {
	r := rand.New(rand.NewSource(1))
	for range 100 {
		l := anyTree(r, 500)
		c := built(t, chip.New(16, 8, r.Perm(16)[:3]), l...)
		for range 3 {
			finds(t, c, l...)
			finds(t, c.Copy(), l...)
			c.Die(0, r.Int())
			c.Program(15, 0, strings.Repeat("x", chip.Size)) // a block that is bad or erased
			c.Power()
		}
	}
}

// TestP8Any: whatever texts stand on a chip as records, what is mounted is a tree, and can be built anew.
func TestP8Any(t *testing.T) {
	r := rand.New(rand.NewSource(2))
	were := 0
	for range 3000 {
		tree, _ := trees.New(anyTree(r, 1+r.Intn(300)))
		text := []byte(tree.Text())
		for range r.Intn(4) {
			text[r.Intn(len(text))] = byte(r.Intn(256))
		}
		c := chip.New(16, 16, nil)
		if e := store.Renew(c, string(text)); e != api.OK {
			t.Fatalf("Renew = %d", e)
		}
		if l := findsAny(t, c); len(l) > 0 {
			finds(t, built(t, chip.New(32, 16, nil), l...), l...)
			were++
		}
	}
	if were < 500 {
		t.Errorf("only %d were mounted", were)
	}
}

// TestP8Older: where the newest record is no tree, there is still something that can be mounted.
func TestP8Older(t *testing.T) {
	c := built(t, chip.New(8, 4, nil), file("a", "old"))
	c.Fail(0, 0) // so that it is left in a block that is bad
	if e := store.Renew(c, "\xff"); e != api.OK {
		t.Fatalf("Renew = %d", e)
	}
	finds(t, c, file("a", "old"))
}

// TestP8Scribbled: pages are mixed up and changed, in bad blocks too; what is mounted is a tree, and what is built then can be mounted.
func TestP8Scribbled(t *testing.T) {
	r := rand.New(rand.NewSource(3))
	for range 1000 {
		c := built(t, chip.New(8, 4, []int{0, 5}), anyTree(r, 96)...)
		other := image(built(t, chip.New(8, 4, nil), anyTree(r, 128)...))
		for range r.Intn(20) {
			b := []byte(slices.Concat(image(c), other)[r.Intn(64)])
			for range max(0, r.Intn(4)-2) {
				b[r.Intn(len(b))] = byte(r.Intn(256))
			}
			c.Scribble(r.Intn(8), r.Intn(4), string(b[:r.Intn(2)*r.Intn(64)+1]))
			c.Scribble(r.Intn(8), r.Intn(4), string(b))
		}
		findsAny(t, c)
		built(t, c, anyTree(r, 96)...)
		mount(t, c)
	}
}

// TestP2Mount: the lists that are told are new each time, their spare room too.
func TestP2Mount(t *testing.T) {
	l := []api.Item{dir("d"), file("d/a", "1"), file("d/b", "2"), file("d/c", "3")}
	f := mount(t, built(t, chip.New(8, 8, nil), l...))
	for range 2 {
		tree := f.Tree()
		names, _ := f.List("d")
		if !slices.Equal(tree, l) || !slices.Equal(names, []string{"a", "b", "c"}) {
			t.Fatalf("Tree() = %+v, List(d) = %q", tree, names)
		}
		more, _ := f.List("d")
		tree, names = tree[:cap(tree)], names[:cap(names)]
		for i := range tree {
			tree[i] = file("other", "")
		}
		for i := range names {
			names[i] = "other"
		}
		if !slices.Equal(more, []string{"a", "b", "c"}) {
			t.Fatalf("two lists share memory: %q", more)
		}
	}
}
