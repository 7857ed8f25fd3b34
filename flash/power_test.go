package flash_test

import (
	"math/rand"
	"slices"
	"strings"
	"testing"

	"nand/api"
	"nand/chip"
	"nand/flash"
)

// story: a chip, what is mounted of it, and what may be found on it.
type story struct {
	t      *testing.T
	c      *chip.Chip
	f      *flash.FS
	may    [][]api.Item // what is sure, and the trees behind the changes since
	failed bool         // a call of the chip may have failed
}

// begin: a tree is built and mounted.
func begin(t *testing.T, c *chip.Chip, l ...api.Item) *story {
	s := &story{t: t, c: built(t, c, l...)}
	s.mount()
	return s
}

// mount: the chip has power, and one of the trees is found that may be.
func (s *story) mount() {
	s.t.Helper()
	s.c.Power()
	s.look()
	s.f = mount(s.t, s.c)
	s.may = [][]api.Item{s.f.Tree()}
}

// look: Mount, called now, finds what may be found.
func (s *story) look() {
	s.t.Helper()
	c := s.c.Copy()
	c.Power()
	l := mount(s.t, c).Tree()
	if s.may != nil && !slices.ContainsFunc(s.may, func(m []api.Item) bool { return slices.Equal(m, l) }) {
		s.t.Fatalf("%.60v is found, and may not be", l)
	}
}

// does: a call of P9 is made, and is answered as it may be. The tree behind it is told.
func (s *story) does(x call) api.Errno {
	s.t.Helper()
	was := s.f.Tree()
	next, want := x.by(was)
	alive := !s.c.Dead()
	e := x.on(s.f)
	told := was
	switch {
	case want != api.OK:
		if e != want {
			s.t.Fatalf("%.60v = %d, want %d", x, e, want)
		}
	case e == api.OK:
		told = next
		s.may = append(s.may, next)
	case e == api.ErrDev && s.c.Dead():
		if alive {
			s.may = append(s.may, next)
		}
	case e == api.ErrDev && s.failed:
	case e == api.ErrFull && !s.c.Dead() && (s.failed || !light(s.c, next)):
	default:
		s.t.Fatalf("%.60v on %.60v = %d, dead: %v", x, was, e, s.c.Dead())
	}
	if want == api.OK && e == api.OK && s.c.Dead() {
		s.t.Fatalf("%.60v = OK without power", x)
	}
	if got := s.f.Tree(); !slices.Equal(got, told) {
		s.t.Fatalf("Tree() = %.60v behind %.60v = %d, want %.60v", got, x, e, told)
	}
	s.look()
	return e
}

// sync: Sync is called, and is answered as it may be.
func (s *story) sync() {
	s.t.Helper()
	switch e := s.f.Sync(); {
	case e == api.OK && !s.c.Dead():
		s.may = [][]api.Item{s.f.Tree()}
	case e == api.ErrDev && (s.c.Dead() || s.failed):
	case e == api.ErrFull && s.failed && !s.c.Dead():
	default:
		s.t.Fatalf("Sync = %d, dead: %v", e, s.c.Dead())
	}
	s.look()
}

// stage: a chip, and calls on a tree that is light there.
func stage() (*chip.Chip, []api.Item, []call) {
	some := noise(rand.New(rand.NewSource(1)), 60)
	return chip.New(7, 4, []int{2, 4}), []api.Item{file("a", "first")}, []call{
		{"Put", "a", some[:20], 0, 0}, {"Attr", "a", "", 1, 2}, {"Write", "a", "x", 3, 0}, {"Mkdir", "d", "", 0, 0}, {"Move", "a", "d/f", 0, 0},
		{"Cut", "d/f", "", 25, 0}, {"Put", "b", "", 0, 0}, {"Remove", "b", "", 0, 0}, {"Move", "d", "e", 0, 0}, {"Remove", "e/f", "", 0, 0}, {"Put", "e/g", some[:30], 0, 0},
	}
}

// TestP12Power: the power goes at each call of the chip, and leaves each part of what is done then; from then on all goes on, mounted anew or not.
func TestP12Power(t *testing.T) {
	for _, anew := range []bool{true, false} {
		went := true
		for behind := 0; went; behind++ {
			went = false
			for cut := 0; cut < chip.Size; cut += 1 + behind%3 {
				c, l, calls := stage()
				s := begin(t, c, l...)
				c.Die(behind, cut)
				for _, x := range calls {
					for s.does(x) == api.ErrDev && c.Dead() {
						went = true
						s.sync()
						c.Power()
						if anew {
							s.mount()
						}
						if _, e := x.by(s.f.Tree()); e != api.OK {
							break // it was the change that is found, though it was answered with ErrDev
						}
					}
				}
				c.Power()
				s.sync()
				s.mount()
				finds(t, c, dir("e"), file("e/g", calls[10].other))
			}
		}
	}
}

// TestP12Each: each change that was answered with OK can be found, and a change that was refused is never found later.
func TestP12Each(t *testing.T) {
	c, l, calls := stage()
	s := begin(t, c, l...)
	for _, x := range calls {
		if e := s.does(x); e != api.OK {
			t.Fatalf("%.60v = %d", x, e)
		}
		s.sync()
		if e := s.f.Put("no", noise(rand.New(rand.NewSource(1)), 3000)); e != api.ErrFull {
			t.Fatalf("Put = %d", e)
		}
		s.look()
	}
}

// next: what comes next, by chance.
func (s *story) next(r *rand.Rand, most int) {
	switch r.Intn(12) {
	case 0:
		s.sync()
	case 1:
		s.mount()
	default:
		s.does(anyCall(r, s.f.Tree(), most))
	}
	if s.c.Dead() {
		s.sync()
		s.does(anyCall(r, s.f.Tree(), most))
		s.c.Power()
		if r.Intn(2) == 0 {
			s.mount()
		}
	}
}

// TestP12Again: the power goes again and again.
func TestP12Again(t *testing.T) {
	r := rand.New(rand.NewSource(2))
	for range 120 {
		c := chip.New(4+r.Intn(8), 4+r.Intn(8), []int{r.Intn(30)})
		s := begin(t, c)
		for range 150 {
			if r.Intn(3) == 0 {
				c.Die(r.Intn(12), r.Int())
			}
			s.next(r, pick(r, 5, 30, 200))
		}
	}
}

// TestP12Fails: blocks go bad at any call, again and again, till no room is left; and the power goes, too.
func TestP12Fails(t *testing.T) {
	r := rand.New(rand.NewSource(3))
	for k := range 150 {
		c := chip.New(4+r.Intn(20), 4+r.Intn(8), nil)
		s := begin(t, c)
		s.failed = true
		for range 150 {
			if r.Intn(20) == 0 {
				c.Fail(r.Intn(12), r.Int())
			}
			if k%2 == 0 && r.Intn(10) == 0 {
				c.Die(r.Intn(12), r.Int())
			}
			s.next(r, pick(r, 5, 30, 200))
		}
	}
}

// TestP12FailsOnce: one block goes bad at each call in turn, and leaves each part of what is done then.
func TestP12FailsOnce(t *testing.T) {
	for at := range 30 {
		for left := 0; left < chip.Size; left += 3 {
			c, l, calls := stage()
			s := begin(t, c, l...)
			s.failed = true
			c.Fail(at, left)
			done := 0
			for _, x := range calls {
				if s.does(x) == api.OK {
					done++
				}
			}
			s.sync()
			s.mount()
			if done == len(calls) {
				finds(t, c, dir("e"), file("e/g", calls[10].other))
			}
		}
	}
}

// TestP12FailsThenPower: where few blocks are left, one goes bad, and the power goes in the same change or the next: what was sure is not given up for what comes.
func TestP12FailsThenPower(t *testing.T) {
	some := noise(rand.New(rand.NewSource(6)), 150)
	for _, bad := range [][]int{{0, 3}, {1}, nil} {
		for at := range 12 {
			for behind := range 16 {
				s := begin(t, chip.New(4, 4, bad), file("a", some[:100]))
				s.failed = true
				s.c.Fail(at, 9*at)
				s.c.Die(behind, 7*behind)
				for i := range 4 {
					s.does(call{"Put", "a", some[i : i+110], 0, 0})
				}
				s.c.Power()
				s.does(call{"Put", "a", "last", 0, 0})
				s.mount()
			}
		}
	}
}

func TestP11Sync(t *testing.T) {
	c := built(t, chip.New(8, 8, nil), file("a", "x"))
	f := mount(t, c)
	answers(t, f, []call{{"Put", "b", "y", 0, 0}, {"Remove", "a", "", 0, 0}}, api.OK)
	for range 2 {
		if e := f.Sync(); e != api.OK {
			t.Errorf("Sync = %d", e)
		}
		finds(t, c, file("b", "y"))
	}
	answers(t, f, []call{{"Put", "b", "z", 0, 0}}, api.OK)
	c.Die(0, 0)
	c.Erase(7)
	for range 2 {
		if e := f.Sync(); e != api.ErrDev {
			t.Errorf("Sync without power = %d", e)
		}
	}
	c.Power()
	if e := f.Sync(); e != api.OK {
		t.Errorf("Sync with the power back = %d", e)
	}
	finds(t, c, file("b", "z"))
}

// TestP14Scribbled: what Mount makes of any chip is told, changed, and built anew on a chip with room.
func TestP14Scribbled(t *testing.T) {
	r := rand.New(rand.NewSource(4))
	were := 0
	for range 400 {
		c := built(t, chip.New(8, 4, []int{5}), anyTree(r, 96)...)
		f := mount(t, c)
		for range r.Intn(20) {
			anyCall(r, f.Tree(), 60).on(f)
		}
		scribble(r, c)
		f, e := flash.Mount(c)
		if e == api.ErrChip && f == nil {
			continue
		}
		were++
		for range 20 {
			l := f.Tree()
			x := anyCall(r, l, 60)
			next, want := x.by(l)
			if !isTree(l) || !slices.Equal(l, inOrder(l)) {
				t.Fatalf("Tree() = %.60v, which is no tree in order", l)
			}
			switch e := x.on(f); {
			case e == api.OK && want == api.OK:
				l = next
			case e != want && e != api.ErrFull:
				t.Fatalf("%.60v = %d, want %d", x, e, want)
			}
			if !slices.Equal(f.Tree(), l) {
				t.Fatalf("Tree() = %.60v, want %.60v", f.Tree(), l)
			}
			if r.Intn(5) == 0 {
				scribble(r, c)
			}
		}
		if e := f.Sync(); e != api.OK {
			t.Fatalf("Sync = %d", e)
		}
		l := f.Tree()
		finds(t, built(t, chip.New(32, 16, nil), l...), l...)
		findsAny(t, c)
	}
	if were < 100 {
		t.Errorf("only %d were mounted", were)
	}
}

// scribble mixes pages of a chip up, and changes some.
func scribble(r *rand.Rand, c *chip.Chip) {
	for range r.Intn(10) {
		s, _ := c.Read(r.Intn(c.Blocks()), r.Intn(c.Pages()))
		b := []byte(s)
		for range max(0, r.Intn(4)-2) {
			b[r.Intn(len(b))] = byte(r.Intn(256))
		}
		c.Scribble(r.Intn(c.Blocks()), r.Intn(c.Pages()), string(b[:r.Intn(2)*r.Intn(64)+1]))
		c.Scribble(r.Intn(c.Blocks()), r.Intn(c.Pages()), string(b))
	}
}

// TestP14Round: what is built, changed, mounted and told is the tree, from one chip to the next.
func TestP14Round(t *testing.T) {
	r := rand.New(rand.NewSource(5))
	l := anyTree(r, 1000)
	for range 100 {
		c := built(t, chip.New(32, 8+r.Intn(9), []int{r.Intn(64)}), l...)
		finds(t, c, l...)
		f := mount(t, c)
		for range 20 {
			x := anyCall(r, f.Tree(), 50)
			if next, e := x.by(f.Tree()); e == api.OK && weight(next) < 1000 {
				x.on(f)
			}
		}
		l = f.Tree()
		finds(t, c, l...)
	}
	if !slices.ContainsFunc(l, func(a api.Item) bool { return strings.Contains(a.Path, "/") }) {
		t.Errorf("the last tree is poor: %.60v", l)
	}
}
