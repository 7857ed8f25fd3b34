package flash_test

import (
	"math/rand"
	"slices"
	"strings"
	"testing"

	"nand/api"
	"nand/chip"
)

func TestP10Read(t *testing.T) {
	great := noise(rand.New(rand.NewSource(1)), 4000)
	f := mount(t, built(t, chip.New(32, 16, nil), dir("d"), dir("d/e"), file("d/f", ""), file("d/e/g", great), file("h", "\x00\xff")))
	for path, want := range map[string]string{"d/f": "", "d/e/g": great, "h": "\x00\xff"} {
		if s, e := f.Read(path); s != want || e != api.OK {
			t.Errorf("Read(%s) = %q, %d", path, s, e)
		}
	}
	for path, want := range map[string]api.Errno{
		"": api.ErrArg, "/": api.ErrArg, ".": api.ErrArg, "h/..": api.ErrArg, "x//y": api.ErrArg, "h\x00": api.ErrArg,
		"h/" + strings.Repeat("n", 21): api.ErrArg, "h" + strings.Repeat("/x", 6): api.ErrArg, strings.Repeat("x", 1<<20): api.ErrArg,
		"h/x": api.ErrKind, "h/x/y": api.ErrKind, "h" + strings.Repeat("/x", 5): api.ErrKind, "d/f/x": api.ErrKind, "d/e/g/x/y": api.ErrKind,
		"x": api.ErrNone, "x/y": api.ErrNone, "x/y/z": api.ErrNone, "d/x": api.ErrNone, "d/x/f": api.ErrNone, "d/e/f": api.ErrNone,
		"d": api.ErrKind, "d/e": api.ErrKind,
	} {
		if s, e := f.Read(path); s != "" || e != want {
			t.Errorf("Read(%.40q) = %.40q, %d, want %d", path, s, e, want)
		}
	}
}

func TestP10List(t *testing.T) {
	f := mount(t, built(t, chip.New(16, 16, nil), dir("d"), dir("d/e"), file("d/a", ""), file("d/e!", ""), file("d/\xff", ""), file("d/e/z", ""), file("d.x", ""), dir("e")))
	for path, want := range map[string][]string{"": {"d", "d.x", "e"}, "d": {"a", "e", "e!", "\xff"}, "d/e": {"z"}, "e": nil} {
		if l, e := f.List(path); !slices.Equal(l, want) || e != api.OK {
			t.Errorf("List(%q) = %q, %d", path, l, e)
		}
	}
	for path, want := range map[string]api.Errno{
		"/": api.ErrArg, "d/": api.ErrArg, "..": api.ErrArg, "d.x/.": api.ErrArg, "d" + strings.Repeat("/x", 6): api.ErrArg,
		"d.x/y": api.ErrKind, "d/a/b/c": api.ErrKind, "x/y": api.ErrNone, "x": api.ErrNone, "d/x": api.ErrNone, "d/x/y": api.ErrNone,
		"d.x": api.ErrKind, "d/e/z": api.ErrKind,
	} {
		if l, e := f.List(path); len(l) != 0 || e != want {
			t.Errorf("List(%q) = %q, %d, want %d", path, l, e, want)
		}
	}
	if l, e := mount(t, built(t, chip.New(4, 4, nil))).List(""); len(l) != 0 || e != api.OK {
		t.Errorf("List of an empty root = %q, %d", l, e)
	}
}

// TestP10Any: what is read and listed is what the tree tells.
func TestP10Any(t *testing.T) {
	r := rand.New(rand.NewSource(2))
	for range 200 {
		l := anyTree(r, 2000)
		f := mount(t, built(t, chip.New(32, 16, nil), l...))
		for _, a := range append(l, dir("")) {
			var names []string
			for _, b := range inOrder(l) {
				if at := strings.LastIndex(b.Path, "/"); b.Path[:max(at, 0)] == a.Path {
					names = append(names, b.Path[at+1:])
				}
			}
			if got, e := f.List(a.Path); a.Dir && (e != api.OK || !slices.Equal(got, names)) || !a.Dir && e != api.ErrKind {
				t.Fatalf("List(%q) = %q, %d, want %q", a.Path, got, e, names)
			}
			if got, e := f.Read(a.Path); !a.Dir && (e != api.OK || got != a.Data) || a.Dir && e == api.OK {
				t.Fatalf("Read(%q) = %q, %d", a.Path, got, e)
			}
		}
	}
}

// refused: what P9's first words and a missing item say of a path, by the document's words once more.
func refused(l []api.Item, path string) api.Errno {
	if !isPath(path) {
		return api.ErrArg
	}
	if e := above(l, path); e != api.OK {
		return e
	}
	if where(l, path) < 0 {
		return api.ErrNone
	}
	return api.OK
}

// TestP10Paths: texts that are nearly paths, and paths of which something is there.
func TestP10Paths(t *testing.T) {
	r := rand.New(rand.NewSource(3))
	l := []api.Item{dir("a"), file("a/b", "1"), dir("a/a"), file("a/a/a", "2"), file("b", "3"), file("...", "4")}
	f := mount(t, built(t, chip.New(8, 8, nil), l...))
	for range 50000 {
		var b strings.Builder
		for range r.Intn(14) {
			b.WriteByte("aabb//..\x00"[min(r.Intn(9), r.Intn(30))])
		}
		path := b.String()
		want := refused(l, path)
		at := slices.IndexFunc(l, func(a api.Item) bool { return a.Path == path })
		isDir := at >= 0 && l[at].Dir
		if s, e := f.Read(path); want != api.OK && (e != want || s != "") || want == api.OK && (e == api.ErrKind) != isDir {
			t.Fatalf("Read(%q) = %q, %d, want %d", path, s, e, want)
		}
		if s, e := f.List(path); path != "" && want != api.OK && (e != want || len(s) > 0) || want == api.OK && (e == api.OK) != isDir {
			t.Fatalf("List(%q) = %q, %d, want %d", path, s, e, want)
		}
	}
}
