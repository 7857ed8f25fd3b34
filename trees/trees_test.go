package trees

import (
	"math/rand"
	"slices"
	"strings"
	"testing"

	"nand/api"
)

// some: a tree of all kinds of items.
func some(t testing.TB) Tree {
	t.Helper()
	tree, e := New([]api.Item{
		{Path: "d", Dir: true, Mode: api.MaxMode, Time: api.MaxTime},
		{Path: "d/empty"},
		{Path: "d/e", Dir: true},
		{Path: "d/e/plain", Data: "\x00\xff?", Mode: 1, Time: 256},
		{Path: "d.x", Data: strings.Repeat("x", api.MaxFile)},
	})
	if e != api.OK {
		t.Fatalf("New = %d", e)
	}
	return tree
}

func TestNames(t *testing.T) {
	long := strings.Repeat("n", api.MaxName)
	for _, s := range []string{"a", "...", ".a", "..a", " ", "\xff", "\x01", "-", long} {
		if !isName(s) || !isPath(s) || !isPath("d/"+s+"/e") {
			t.Errorf("%q is no name", s)
		}
	}
	for _, s := range []string{"", ".", "..", "a\x00", "\x00", long + "n"} {
		if isName(s) || isPath(s) || isPath("d/"+s) || isPath(s+"/d") {
			t.Errorf("%q is a name", s)
		}
	}
	if isName("a/b") {
		t.Error("a path of two names is a name")
	}
	deep := strings.Repeat(long+"/", api.MaxDeep-1) + long
	if !isPath(deep) || isPath(deep+"/a") || isPath(deep+"/") {
		t.Error("a path has up to MaxDeep names")
	}
}

func TestCutLast(t *testing.T) {
	for _, s := range [][3]string{{"a", "", "a"}, {"a/b", "a", "b"}, {"a/b/c", "a/b", "c"}} {
		if in, name := cutLast(s[0]); in != s[1] || name != s[2] {
			t.Errorf("cutLast(%s) = %q, %q", s[0], in, name)
		}
	}
}

func TestCompare(t *testing.T) {
	rising := []string{"A", "a", "a/b", "a/b/\x01", "a/b/a", "a/b\x01", "a/b!", "a/ba", "a\x01", "a!", "a.", "aa", "b", "\x80"}
	for i, a := range rising {
		for k, b := range rising {
			if got := compare(a, b); (got < 0) != (i < k) || (got > 0) != (i > k) {
				t.Errorf("compare(%q, %q) = %d", a, b, got)
			}
		}
	}
}

func TestText(t *testing.T) {
	for _, tree := range []Tree{{}, some(t)} {
		text := tree.Text()
		for _, behind := range []string{"", "\x00\x00\x00", "\xff"} {
			if back, ok := FromText(text + behind); !ok || !slices.Equal(back.Items(), tree.Items()) {
				t.Errorf("FromText(Text()) = %v, %v, want %v", back, ok, tree)
			}
		}
		for i := range len(text) {
			if back, ok := FromText(text[:i]); ok || back != nil {
				t.Errorf("FromText of %d bytes of %d = %v, %v", i, len(text), back, ok)
			}
		}
	}
}

// TestTextWeight: an item takes no more bytes than it weighs, which is what room is promised by.
func TestTextWeight(t *testing.T) {
	noise := make([]byte, 300)
	rand.New(rand.NewSource(1)).Read(noise)
	for many := range len(noise) {
		item := api.Item{Path: "some/path", Data: string(noise[:many])}
		if got, weight := len(addItem(nil, item)), 16+len(item.Path)+many; got > weight-1 {
			t.Errorf("an item of weight %d takes %d bytes", weight, got)
		}
	}
}

func TestFromWrongText(t *testing.T) {
	file := func(path string) string {
		return "\x00\x00\x00\x00\x00\x00" + string(rune(len(path))) + path + "\x00\x02\x00x"
	}
	dir := func(path string) string { return "\x80\x00\x00\x00\x00\x00" + string(rune(len(path))) + path }
	if tree, ok := FromText("\x02" + file("d/f") + dir("d")); !ok || tree["d/f"].Data != "x" || !tree["d"].Dir {
		t.Fatalf("FromText = %v, %v", tree, ok)
	}
	for _, text := range []string{
		"\x01" + file(""),
		"\x01" + file(".."),
		"\x01" + file("a/b"),
		"\x02" + file("a") + file("a"),
		"\x02" + file("a") + file("a/b"),
		"\x01\x10\x00" + file("a")[2:],
		"\x01\x00\x00\x80" + file("a")[3:],
		"\x01" + file("a")[:8] + "\x00\x00",
		"\x01" + file("a")[:8] + "\x00\x01\x02",
		"\x3d" + strings.Repeat(file("a"), 61),
		"\xff" + strings.Repeat(dir("a"), 300),
	} {
		if tree, ok := FromText(text); ok || tree != nil {
			t.Errorf("FromText(%q) = %v, %v", text, tree, ok)
		}
	}
}

// FuzzFromText: whatever a text is, it is no tree, or one that goes into a text and back.
func FuzzFromText(f *testing.F) {
	f.Add("")
	f.Add("\x00")
	f.Add(some(f).Text())
	f.Fuzz(func(t *testing.T, text string) {
		tree, ok := FromText(text)
		if !ok {
			if tree != nil {
				t.Fatalf("FromText = %v beside false", tree)
			}
			return
		}
		if _, e := New(tree.Items()); e != api.OK {
			t.Fatalf("FromText = %v, which is no tree", tree)
		}
		if back, ok := FromText(tree.Text()); !ok || !slices.Equal(back.Items(), tree.Items()) {
			t.Fatalf("%v comes back as %v, %v", tree, back, ok)
		}
	})
}
