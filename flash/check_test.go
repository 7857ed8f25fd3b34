package flash_test

import (
	"math/rand"
	"slices"
	"strings"
	"testing"

	"nand/api"
	"nand/flash"
)

func TestP6Order(t *testing.T) {
	want := []api.Item{
		{Path: "\x01", Mode: 4095, Time: 2147483647},
		dir("a"), file("a/\x01", ""), dir("a/b"), file("a/b/c", "x"), file("a/b!", ""),
		file("a\x01", ""), file("a!", ""), file("a.", ""), file("aa", ""),
		dir("d"), file("d/f", ""), file("d.x", ""), file("\x80", ""), file("\xff", ""),
	}
	r := rand.New(rand.NewSource(1))
	for range 50 {
		l := slices.Clone(want)
		r.Shuffle(len(l), func(i, k int) { l[i], l[k] = l[k], l[i] })
		if got, e := flash.Check(l); e != api.OK || !slices.Equal(got, want) {
			t.Fatalf("Check = %+v, %d", got, e)
		}
	}
}

// edges: trees that just are, and lists that just are none.
func edges() (trees [][]api.Item, others [][]api.Item) {
	name := strings.Repeat("n", 20)
	var deep, many []api.Item
	for i := range 6 {
		deep = append(deep, dir(strings.Repeat(name+"/", i)+name))
	}
	for i := range 60 {
		many = append(many, file(string(rune('A'+i)), ""))
	}
	trees = [][]api.Item{nil, {}, deep, many, {file("a", strings.Repeat("x", 4000))}, {{Path: "a", Mode: 4095, Time: 2147483647}}, {file("...", ""), file(".a", ""), file("\n", "")}}
	others = [][]api.Item{
		{{}}, {file(".", "")}, {file("..", "")}, {file(name+"n", "")}, {file("a\x00b", "")}, {file("/", "")}, {file("/a", "")},
		{dir("a"), file("a/", "")}, {dir("a"), file("a//b", "")}, {dir("a"), file("a/.", "")}, {dir("a"), file("a/../b", "")},
		{file("a/b", "")}, {dir("a"), file("a/b/c", "")}, {file("a", ""), file("a/b", "")},
		{file("a", ""), file("a", "")}, {dir("a"), file("a", "")}, {dir("a"), dir("a")},
		{{Path: "a", Mode: -1}}, {{Path: "a", Mode: 4096}}, {{Path: "a", Time: -1}}, {{Path: "a", Time: 1 << 31}},
		{{Path: "a", Dir: true, Data: "x"}}, {file("a", strings.Repeat("x", 4001))},
		append(slices.Clone(deep), file(deep[5].Path+"/x", "")), append(slices.Clone(many), file("more", "")),
		make([]api.Item, 100000),
	}
	return trees, others
}

func TestP6Edges(t *testing.T) {
	trees, others := edges()
	for k, l := range trees {
		if got, e := flash.Check(l); e != api.OK || !slices.Equal(got, inOrder(l)) {
			t.Errorf("case %d: Check = %+v, %d", k, got, e)
		}
	}
	for k, l := range others {
		if got, e := flash.Check(l); e != api.ErrTree || len(got) != 0 {
			t.Errorf("case %d: Check = %+v, %d", k, got, e)
		}
	}
}

// TestP6Any: lists that are nearly trees, against the document's words once more.
func TestP6Any(t *testing.T) {
	r := rand.New(rand.NewSource(2))
	names := []string{"a", "b", "a", "b", "a.", "", ".", strings.Repeat("n", 21)}
	were := [2]int{}
	for range 20000 {
		var l []api.Item
		for range r.Intn(7) {
			var path []string
			for range 1 + r.Intn(3) {
				path = append(path, names[min(r.Intn(20), r.Intn(8))])
			}
			l = append(l, api.Item{Path: strings.Join(path, "/"), Dir: r.Intn(2) == 0, Mode: min(r.Intn(9)-1, 0), Time: max(0, r.Intn(9)-7) << 30})
		}
		want, is := api.ErrTree, 0
		if isTree(l) {
			want, is = api.OK, 1
		}
		were[is]++
		got, e := flash.Check(l)
		if e != want || e == api.OK && !slices.Equal(got, inOrder(l)) || e != api.OK && len(got) > 0 {
			t.Fatalf("Check(%+v) = %+v, %d", l, got, e)
		}
	}
	if min(were[0], were[1]) < 1000 {
		t.Errorf("so many were trees or not: %v", were)
	}
}

func TestP2Check(t *testing.T) {
	all := []api.Item{file("b", "2"), dir("a"), file("own", "own")}
	given := all[:2]
	got, _ := flash.Check(given)
	if !slices.Equal(all, []api.Item{file("b", "2"), dir("a"), file("own", "own")}) {
		t.Errorf("what was handed in is %+v", all)
	}
	for i := range got[:cap(got)] {
		got[:cap(got)][i] = file("other", "")
	}
	if !slices.Equal(all, []api.Item{file("b", "2"), dir("a"), file("own", "own")}) {
		t.Errorf("what was handed in is %+v", all)
	}
}
