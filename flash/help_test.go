package flash_test

import (
	"math/rand"
	"slices"
	"strings"
	"testing"

	"nand/api"
	"nand/chip"
	"nand/flash"
)

func file(path string, data string) api.Item { return api.Item{Path: path, Data: data} }

func dir(path string) api.Item { return api.Item{Path: path, Dir: true} }

// noise: bytes that cannot be packed.
func noise(r *rand.Rand, many int) string {
	b := make([]byte, many)
	r.Read(b)
	return string(b)
}

// image: all pages of a chip.
func image(c *chip.Chip) []string {
	var l []string
	for block := range c.Blocks() {
		for i := range c.Pages() {
			s, _ := c.Read(block, i)
			l = append(l, s)
		}
	}
	return l
}

// built: a chip on which a tree was built.
func built(t testing.TB, c *chip.Chip, tree ...api.Item) *chip.Chip {
	t.Helper()
	if e := flash.Build(c, tree); e != api.OK {
		t.Fatalf("Build = %d", e)
	}
	return c
}

// mount: what is on a chip.
func mount(t testing.TB, c *chip.Chip) *flash.FS {
	t.Helper()
	f, e := flash.Mount(c)
	if e != api.OK || f == nil {
		t.Fatalf("Mount = %v, %d", f, e)
	}
	return f
}

// finds: this tree is mounted (handed in in whatever order).
func finds(t testing.TB, c *chip.Chip, tree ...api.Item) {
	t.Helper()
	if got, want := mount(t, c).Tree(), inOrder(tree); !slices.Equal(got, want) {
		t.Fatalf("Tree() = %+v, want %+v", got, want)
	}
}

// findsAny: a tree is mounted, or there is nothing that can be.
func findsAny(t testing.TB, c *chip.Chip) []api.Item {
	t.Helper()
	f, e := flash.Mount(c)
	if e == api.ErrChip && f == nil {
		return nil
	}
	if e != api.OK || f == nil {
		t.Fatalf("Mount = %v, %d", f, e)
	}
	l := f.Tree()
	if !isTree(l) || !slices.Equal(l, inOrder(l)) {
		t.Fatalf("Tree() = %+v, which is no tree in order", l)
	}
	return l
}

// killed: the chip has no power.
func killed(c *chip.Chip) *chip.Chip {
	c.Die(0, 0)
	for block := range c.Blocks() {
		c.Erase(block)
	}
	return c
}

// isTree: the document's words of a tree once more, each for itself.
func isTree(l []api.Item) bool {
	for i, a := range l {
		if !isPath(a.Path) || a.Mode < 0 || a.Mode > 4095 || a.Time < 0 || a.Time > 2147483647 {
			return false
		}
		if len(a.Data) > 4000 || a.Dir && len(a.Data) > 0 {
			return false
		}
		in := a.Path[:max(0, strings.LastIndex(a.Path, "/"))]
		if in != "" && !slices.ContainsFunc(l, func(b api.Item) bool { return b.Dir && b.Path == in }) {
			return false
		}
		if slices.ContainsFunc(l[:i], func(b api.Item) bool { return b.Path == a.Path }) {
			return false
		}
	}
	return len(l) <= 60
}

// inOrder: items in the order of a tree, name by name.
func inOrder(l []api.Item) []api.Item {
	l = slices.Clone(l)
	slices.SortFunc(l, func(a, b api.Item) int {
		x, y := strings.Split(a.Path, "/"), strings.Split(b.Path, "/")
		for len(x) > 0 && len(y) > 0 {
			if x[0] != y[0] {
				return strings.Compare(x[0], y[0])
			}
			x, y = x[1:], y[1:]
		}
		return len(x) - len(y)
	})
	return l
}

// anyTree: a tree with a weight of at most so much, its items in any order.
func anyTree(r *rand.Rand, weight int) []api.Item {
	names := []string{"a", "b", "a.", "a!", "a~", "\x01", "\xff", "...", strings.Repeat("n", 20)}
	var l []api.Item
	there := map[string]int{}
	dirs := []string{""}
	for range 100 {
		a := api.Item{Path: dirs[r.Intn(len(dirs))] + names[r.Intn(len(names))], Mode: r.Intn(4096), Time: r.Intn(1 << 31), Dir: r.Intn(3) == 0}
		weight -= 16 + len(a.Path)
		if there[a.Path] > 0 || strings.Count(a.Path, "/") > 5 || len(l) == 60 || weight < 0 {
			break
		}
		if a.Dir {
			dirs = append(dirs, a.Path+"/")
		} else {
			a.Data = noise(r, r.Intn(min(weight, 4000)+1))
		}
		weight -= len(a.Data)
		there[a.Path]++
		l = append(l, a)
	}
	r.Shuffle(len(l), func(i, k int) { l[i], l[k] = l[k], l[i] })
	return l
}

// weight: what a tree weighs.
func weight(l []api.Item) int {
	sum := 0
	for _, a := range l {
		sum += 16 + len(a.Path) + len(a.Data)
	}
	return sum
}

// good: how many blocks are not bad.
func good(c *chip.Chip) int {
	many := 0
	for block := range c.Blocks() {
		if !c.Bad(block) {
			many++
		}
	}
	return many
}

// most: the greatest weight that has room on a chip.
func most(c *chip.Chip) int { return good(c) * c.Pages() * chip.Size / 16 }

// light: has a tree room on a chip on which nothing has failed?
func light(c *chip.Chip, l []api.Item) bool { return good(c) >= 4 && weight(l) <= most(c) }
