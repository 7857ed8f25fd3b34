package flash_test

import (
	"math/rand"
	"slices"
	"strconv"
	"strings"
	"testing"

	"nand/api"
	"nand/chip"
	"nand/flash"
)

// forChips: chips of the least size, the greatest, and some between, with any blocks bad, four at least not.
func forChips(r *rand.Rand, do func(c *chip.Chip)) {
	for _, blocks := range []int{4, 5, 6, 7, 8, 11, 15, 22, 32} {
		for _, pages := range []int{4, 5, 9, 16} {
			for _, bad := range []int{0, blocks - 4, r.Intn(blocks - 3)} {
				do(chip.New(blocks, pages, r.Perm(blocks)[:bad]))
			}
		}
	}
}

// TestP13Steady: changes again and again, of a tree that weighs as much as it may, and the power goes, too.
func TestP13Steady(t *testing.T) {
	r := rand.New(rand.NewSource(1))
	forChips(r, func(c *chip.Chip) {
		f := mount(t, built(t, c))
		for i := range 60 {
			data := noise(r, min(most(c)-17, 4000))
			if i%3 == 0 {
				data = data[:r.Intn(len(data)+1)]
			}
			if i%7 == 0 {
				c.Die(r.Intn(20), r.Int())
				f.Put("a", data)
				c.Power()
			}
			if i%10 == 0 {
				f = mount(t, c)
			}
			if e := f.Put("a", data); e != api.OK {
				t.Fatalf("Put of %d bytes on %d blocks of %d pages = %d", len(data), c.Blocks(), c.Pages(), e)
			}
			if got, _ := mount(t, c).Read("a"); got != data {
				t.Fatal("the file is not found")
			}
		}
	})
}

// TestP13Shapes: trees of all shapes, made and unmade by changes, each as heavy as it may be.
func TestP13Shapes(t *testing.T) {
	r := rand.New(rand.NewSource(2))
	forChips(r, func(c *chip.Chip) {
		f := mount(t, built(t, c))
		for k, l := range heavy(r, most(c)) {
			for _, a := range inOrder(l) {
				x := call{"Put", a.Path, a.Data, 0, 0}
				if a.Dir {
					x.name = "Mkdir"
				}
				answers(t, f, []call{x, {"Attr", a.Path, "", a.Mode, a.Time}}, api.OK)
			}
			tells(t, c, f, inOrder(l)...)
			for _, a := range slices.Backward(inOrder(l)) {
				answers(t, f, []call{{"Remove", a.Path, "", 0, 0}}, api.OK)
			}
			if k%2 == 0 {
				f = mount(t, c)
			}
		}
	})
}

// TestP13FromFull: from the heaviest tree that is laid down on a chip, by Build or by changes, there is always a way back to one that has room.
func TestP13FromFull(t *testing.T) {
	r := rand.New(rand.NewSource(3))
	forChips(r, func(c *chip.Chip) {
		var l []api.Item
		for i := range 20 {
			l = append(l, file("n"+strconv.Itoa(i), noise(r, most(c)/3)))
		}
		for len(l) > 0 && flash.Build(c, l) != api.OK {
			l = l[:len(l)-1]
		}
		f := mount(t, c)
		for range 2 {
			for i := 0; i < 20 && f.Put("m"+strconv.Itoa(i), noise(r, 30)) == api.OK; i++ {
			}
			if light(c, f.Tree()) {
				t.Fatal("nothing went in")
			}
			finds(t, c, f.Tree()...)
			back := f.Tree()
			for i, a := range back {
				e := f.Remove(a.Path)
				if e != api.OK && (e != api.ErrFull || light(c, back[i+1:])) {
					t.Fatalf("Remove = %d", e)
				}
			}
			tells(t, c, f)
			for _, a := range l {
				if x := f.Put(a.Path, a.Data); x != api.OK && x != api.ErrFull {
					t.Fatalf("Put = %d", x)
				}
			}
		}
	})
}

// TestP13Any: calls of all kinds on small chips, where room is scarce, and the power goes; where there is room, none is refused.
func TestP13Any(t *testing.T) {
	r := rand.New(rand.NewSource(4))
	refused := 0
	for range 60 {
		blocks := 4 + r.Intn(6)
		c := chip.New(blocks, 4+r.Intn(3), r.Perm(blocks)[:r.Intn(blocks-3)])
		s := begin(t, c)
		for range 200 {
			if r.Intn(10) == 0 {
				c.Die(r.Intn(12), r.Int())
			}
			if s.does(anyCall(r, s.f.Tree(), pick(r, 40, 400, 1000))) == api.ErrFull {
				refused++
			}
			if c.Dead() {
				s.mount()
			}
		}
	}
	if refused < 50 {
		t.Errorf("%d were refused", refused)
	}
}

// TestP9Full: what does not go in changes nothing, and leaves all that goes in possible.
func TestP9Full(t *testing.T) {
	great := noise(rand.New(rand.NewSource(5)), 4000)
	c := built(t, chip.New(6, 4, nil), file("a", "x"), file("b", ""))
	f := mount(t, c)
	was := image(c)
	answers(t, f, []call{{"Put", "a", great, 0, 0}, {"Put", "c", great, 0, 0}, {"Write", "a", great[:3000], 5, 0}, {"Write", "b", great[:1000], 3000, 0}}, api.ErrFull)
	if !slices.Equal(image(c), was) {
		t.Error("what was refused was laid down")
	}
	tells(t, c, f, file("a", "x"), file("b", ""))
	answers(t, f, []call{{"Cut", "a", "", 4000, 0}, {"Put", "b", strings.Repeat("y", 4000), 0, 0}}, api.OK) // they pack well
	tells(t, c, f, file("a", "x"+strings.Repeat("\x00", 3999)), file("b", strings.Repeat("y", 4000)))
	answers(t, f, []call{{"Remove", "b", "", 0, 0}, {"Cut", "a", "", 1, 0}}, api.OK)
	tells(t, c, f, file("a", "x"))
}

// TestP13FewBlocks: with less than four blocks that are not bad nothing is promised, but what is answered holds.
func TestP13FewBlocks(t *testing.T) {
	r := rand.New(rand.NewSource(6))
	for _, bad := range [][]int{{0}, {1, 3}, {0, 1, 2}, {0, 1, 2, 3}} {
		c := chip.New(4, 8, bad)
		if e := flash.Build(c, nil); e == api.ErrFull {
			continue
		} else if e != api.OK {
			t.Fatalf("Build beside %d bad blocks = %d", len(bad), e)
		}
		s := begin(t, c)
		for range 300 {
			if r.Intn(10) == 0 {
				c.Die(r.Intn(12), r.Int())
			}
			s.next(r, 60)
		}
	}
}
