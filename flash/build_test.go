package flash_test

import (
	"math/rand"
	"slices"
	"strings"
	"testing"

	"nand/api"
	"nand/chip"
	"nand/flash"
)

func TestP7Errors(t *testing.T) {
	trees, others := edges()
	for k, l := range others {
		if e := flash.Build(nil, l); e != api.ErrArg {
			t.Errorf("case %d: Build on no chip = %d", k, e)
		}
		c := built(t, chip.New(8, 8, nil), file("a", "old"))
		was := image(c)
		if e := flash.Build(killed(c.Copy()), l); e != api.ErrTree {
			t.Errorf("case %d: Build without power = %d", k, e)
		}
		c.Die(0, 0) // so that a call on it would be seen
		if e := flash.Build(c, l); e != api.ErrTree || c.Dead() || !slices.Equal(image(c), was) {
			t.Errorf("case %d: Build = %d, dead: %v", k, e, c.Dead())
		}
		finds(t, c, file("a", "old"))
	}
	for k, l := range trees {
		if e := flash.Build(nil, l); e != api.ErrArg {
			t.Errorf("case %d: Build on no chip = %d", k, e)
		}
		if e := flash.Build(killed(chip.New(8, 8, nil)), l); e != api.ErrDev {
			t.Errorf("case %d: Build without power = %d", k, e)
		}
		finds(t, built(t, chip.New(32, 16, nil), l...), l...)
	}
	noChip := new(chip.Chip)
	if e := flash.Build(noChip, nil); e != api.ErrDev {
		t.Errorf("Build on a chip of nothing without power = %d", e)
	}
	noChip.Power()
	if e := flash.Build(noChip, nil); e != api.ErrFull {
		t.Errorf("Build on a chip of nothing = %d", e)
	}
}

func TestP7Full(t *testing.T) {
	great := file("a", noise(rand.New(rand.NewSource(1)), 4000))
	c := built(t, chip.New(4, 4, nil), file("b", "x"))
	if e := flash.Build(c, []api.Item{great}); e != api.ErrFull {
		t.Errorf("Build = %d", e)
	}
	findsAny(t, c)
	finds(t, built(t, c, file("c", "x")), file("c", "x"))
	if e := flash.Build(killed(c), []api.Item{great}); e != api.ErrDev {
		t.Errorf("Build without power = %d", e)
	}
	if e := flash.Build(chip.New(4, 4, []int{0, 1, 2, 3}), nil); e != api.ErrFull {
		t.Errorf("Build where all is bad = %d", e)
	}
	if e := flash.Build(killed(chip.New(4, 4, []int{1, 2, 3})), []api.Item{great}); e != api.ErrDev {
		t.Errorf("Build where nearly all is bad, without power = %d", e)
	}
}

// TestP7Again: what was there is there no more, however great it was, and is left on no page.
func TestP7Again(t *testing.T) {
	r := rand.New(rand.NewSource(2))
	c := chip.New(6, 5, []int{0, 3})
	secret := noise(r, 40)
	for range 300 {
		if flash.Build(c, anyTree(r, r.Intn(900))) == api.ErrFull {
			findsAny(t, c)
		}
		built(t, c, file("secret", secret))
		l := anyTree(r, 80)
		finds(t, built(t, c, l...), l...)
		if strings.Contains(strings.Join(image(c), ""), secret[:20]) {
			t.Fatal("what was on the chip is still there")
		}
	}
}

// TestP7Power: the power goes at each call of a Build, and leaves each part of what is done then.
func TestP7Power(t *testing.T) {
	l := []api.Item{dir("d"), file("d/f", noise(rand.New(rand.NewSource(3)), 200))}
	first := built(t, chip.New(6, 4, []int{2}), file("old", "old"))
	ends := false
	for behind := 0; !ends; behind++ {
		for cut := range chip.Size {
			c := first.Copy()
			c.Die(behind, cut)
			e := flash.Build(c, l)
			if ends = !c.Dead(); ends != (e == api.OK) || !ends && e != api.ErrDev {
				t.Fatalf("power goes behind %d calls, %d left: Build = %d", behind, cut, e)
			}
			c.Power()
			if e != api.OK {
				findsAny(t, c)
				built(t, c, l...)
			}
			finds(t, c, l...)
		}
	}
}

// TestP7Fails: a block goes bad at each call of a Build, and another one in the next Build: with OK the new tree is found, though old ones are left in bad blocks.
func TestP7Fails(t *testing.T) {
	r := rand.New(rand.NewSource(4))
	one, two, three := file("a", noise(r, 150)), file("a", noise(r, 333)), file("a", "three")
	for at := range 24 {
		for then := range 24 {
			c := built(t, chip.New(12, 4, nil), one)
			for n, a := range []api.Item{two, three} {
				c.Fail([]int{at, then}[n], r.Int())
				switch e := flash.Build(c, []api.Item{a}); e {
				case api.OK:
					finds(t, c, a)
				case api.ErrDev, api.ErrFull:
					findsAny(t, c)
				default:
					t.Fatalf("a block goes bad behind %d calls: Build = %d", at, e)
				}
			}
		}
	}
}

// TestP7Wears: blocks go bad till no room is left; the answer is one of those that may be, and OK tells the truth.
func TestP7Wears(t *testing.T) {
	r := rand.New(rand.NewSource(5))
	for range 50 {
		c := chip.New(8, 4, nil)
		for range 100 {
			if r.Intn(3) == 0 {
				c.Fail(r.Intn(20), r.Int())
			}
			if r.Intn(5) == 0 {
				c.Die(r.Intn(20), r.Int())
			}
			l := anyTree(r, 200)
			e := flash.Build(c, l)
			if c.Dead() && e != api.ErrDev || e != api.OK && e != api.ErrFull && e != api.ErrDev {
				t.Fatalf("Build = %d, dead: %v", e, c.Dead())
			}
			c.Power()
			if e == api.OK {
				finds(t, c, l...)
			} else {
				findsAny(t, c)
			}
		}
	}
}

// heavy: trees of about this weight, of the shapes that take the most beside it.
func heavy(r *rand.Rand, most int) [][]api.Item {
	var files, dirs, deep []api.Item
	for i := range min(60, most/17) {
		files = append(files, file(string([]byte{byte('A' + i)}), ""))
		dirs = append(dirs, dir(string([]byte{byte('A' + i)})))
	}
	for left, path := most, "d"; left >= 16+len(path) && strings.Count(path, "/") < 6; path += "/d" {
		deep = append(deep, dir(path))
		left -= 16 + len(path)
	}
	data := min(4000, most-17)
	return [][]api.Item{files, dirs, deep, {file("a", noise(r, data))}, {file("a", strings.Repeat("x", data))}, anyTree(r, most), anyTree(r, most)}
}

// TestP13Build: what weighs up to a sixteenth of the blocks that are not bad has room.
func TestP13Build(t *testing.T) {
	r := rand.New(rand.NewSource(6))
	for blocks := 4; blocks <= 32; blocks++ {
		for pages := 4; pages <= 16; pages++ {
			for _, bad := range []int{0, blocks - 4, r.Intn(blocks - 3)} {
				c := chip.New(blocks, pages, r.Perm(blocks)[:bad])
				most := most(c)
				for k, l := range heavy(r, most) {
					if weight(l) > most || !isTree(l) {
						t.Fatalf("case %d: no tree of weight %d", k, most)
					}
					finds(t, built(t, c, l...), l...)
				}
				c.Die(r.Intn(blocks), r.Int())
				flash.Build(c, anyTree(r, most))
				c.Power()
				l := heavy(r, most)[3]
				finds(t, built(t, c, l...), l...)
			}
		}
	}
}

// TestP2Build: a tree makes the same chip in whatever order it is handed in, and stays as it is.
func TestP2Build(t *testing.T) {
	r := rand.New(rand.NewSource(7))
	for range 100 {
		l := anyTree(r, 1000)
		was := slices.Clone(l)
		one, two := built(t, chip.New(16, 16, nil), l...), built(t, chip.New(16, 16, nil), inOrder(l)...)
		if !slices.Equal(image(one), image(two)) || !slices.Equal(l, was) {
			t.Fatal("two chips of one tree differ, or the tree was changed")
		}
	}
}
