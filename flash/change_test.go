package flash_test

import (
	"math"
	"math/rand"
	"slices"
	"strconv"
	"strings"
	"testing"

	"nand/api"
	"nand/chip"
	"nand/flash"
)

// tells: this is the tree that is told, and, as nothing has failed, the one that is found.
func tells(t testing.TB, c *chip.Chip, f *flash.FS, want ...api.Item) {
	t.Helper()
	if got := f.Tree(); !slices.Equal(got, want) {
		t.Fatalf("Tree() = %+v, want %+v", got, want)
	}
	finds(t, c, want...)
}

// answers: calls and their answers.
func answers(t *testing.T, f *flash.FS, calls []call, want api.Errno) {
	t.Helper()
	for _, x := range calls {
		was := f.Tree()
		if e := x.on(f); e != want {
			t.Errorf("%.60v = %d, want %d", x, e, want)
		}
		if want != api.OK && !slices.Equal(f.Tree(), was) {
			t.Errorf("%.60v changed something", x)
		}
	}
}

// TestP9Paths: what all calls say of a path and of what it is in.
func TestP9Paths(t *testing.T) {
	c := built(t, chip.New(16, 8, nil), dir("d"), file("d/f", "x"), file("a", "y"))
	f := mount(t, c)
	was := image(c)
	long := strings.Repeat("n", 21)
	for want, paths := range map[api.Errno][]string{
		api.ErrArg:  {"", "/", "/a", "a/", "d//f", ".", "..", "d/.", "a/..", "x/..", "a\x00", long, "a/" + long, "x/" + long, "x/x/x/x/x/x/x", "a/x/x/x/x/x/x", strings.Repeat("x/", 1<<20)},
		api.ErrKind: {"a/x", "a/x/y", "a/x/x/x/x/x", "d/f/x", "d/f/x/y"},
		api.ErrNone: {"x/y", "x/y/z", "d/x/y", "x/x/x/x/x/x"},
	} {
		for _, path := range paths {
			answers(t, f, []call{
				{"Put", path, "z", 0, 0}, {"Put", path, strings.Repeat("z", 4001), 0, 0},
				{"Write", path, "z", 0, 0}, {"Write", path, "", 0, 0}, {"Write", path, "z", 4000, 0},
				{"Cut", path, "", 0, 0}, {"Cut", path, "", 4001, 0}, {"Mkdir", path, "", 0, 0},
				{"Attr", path, "", 1, 1}, {"Remove", path, "", 0, 0},
				{"Move", path, "new", 0, 0}, {"Move", path, "d", 0, 0}, {"Move", "a", path, 0, 0}, {"Move", "d", path, 0, 0},
			}, want)
		}
	}
	// A number that may not be comes ahead of what the path is in.
	for _, path := range []string{"a", "d", "x", "a/x", "x/y"} {
		answers(t, f, []call{
			{"Write", path, "z", -1, 0}, {"Write", path, "", math.MinInt, 0}, {"Cut", path, "", -1, 0}, {"Cut", path, "", math.MinInt, 0},
			{"Attr", path, "", -1, 0}, {"Attr", path, "", 4096, 0}, {"Attr", path, "", 0, -1}, {"Attr", path, "", 0, 1 << 31}, {"Attr", path, "", math.MaxInt, math.MinInt},
		}, api.ErrArg)
	}
	if !slices.Equal(image(c), was) {
		t.Error("what was refused was laid down")
	}
	tells(t, c, f, file("a", "y"), dir("d"), file("d/f", "x"))
}

func TestP9Put(t *testing.T) {
	c := built(t, chip.New(32, 16, nil), dir("d"), api.Item{Path: "a", Data: "old", Mode: 7, Time: 8})
	f := mount(t, c)
	great := noise(rand.New(rand.NewSource(1)), 4000)
	answers(t, f, []call{{"Put", "a", "new", 0, 0}, {"Put", "d/f", "", 0, 0}, {"Put", "g", great, 0, 0}}, api.OK)
	tells(t, c, f, api.Item{Path: "a", Data: "new", Mode: 7, Time: 8}, dir("d"), file("d/f", ""), file("g", great))
	answers(t, f, []call{{"Put", "d", "", 0, 0}, {"Put", "d", great + "x", 0, 0}}, api.ErrKind)
	answers(t, f, []call{{"Put", "a", great + "x", 0, 0}, {"Put", "b", great + "x", 0, 0}}, api.ErrLong)
	for i := range 56 {
		answers(t, f, []call{{"Put", "n" + strconv.Itoa(i), "", 0, 0}}, api.OK)
	}
	answers(t, f, []call{{"Put", "more", "", 0, 0}, {"Put", "d/more", "x", 0, 0}, {"Mkdir", "more", "", 0, 0}}, api.ErrLong)
	answers(t, f, []call{{"Mkdir", "d", "", 0, 0}, {"Mkdir", "a", "", 0, 0}}, api.ErrThere)
	answers(t, f, []call{{"Put", "n5", "x", 0, 0}, {"Move", "n5", "d/n5", 0, 0}, {"Remove", "n6", "", 0, 0}, {"Mkdir", "d/more", "", 0, 0}}, api.OK)
	if l := f.Tree(); len(l) != 60 || l[3] != dir("d/more") {
		t.Errorf("%d items: %.100v", len(l), l)
	}
}

func TestP9Write(t *testing.T) {
	c := built(t, chip.New(32, 16, nil), dir("d"), api.Item{Path: "a", Data: "0123", Mode: 7, Time: 8})
	f := mount(t, c)
	for _, x := range []struct {
		at   int
		data string
		want string
	}{{0, "", "0123"}, {4001, "", "0123"}, {math.MaxInt, "", "0123"}, {1, "x", "0x23"}, {0, "abcd", "abcd"}, {3, "yz", "abcyz"}, {5, "!", "abcyz!"}, {8, "k", "abcyz!\x00\x00k"}, {0, "A", "Abcyz!\x00\x00k"}} {
		answers(t, f, []call{{"Write", "a", x.data, x.at, 0}}, api.OK)
		tells(t, c, f, api.Item{Path: "a", Data: x.want, Mode: 7, Time: 8}, dir("d"))
	}
	answers(t, f, []call{{"Write", "b", "x", 0, 0}, {"Write", "b", "", 0, 0}, {"Write", "d/b", "x", 5000, 0}}, api.ErrNone)
	answers(t, f, []call{{"Write", "d", "x", 0, 0}, {"Write", "d", "", 0, 0}, {"Write", "d", "x", 5000, 0}}, api.ErrKind)
	answers(t, f, []call{{"Write", "a", "x", 4000, 0}, {"Write", "a", "xy", 3999, 0}, {"Write", "a", "x", math.MaxInt, 0}, {"Write", "a", strings.Repeat("x", 4001), 0, 0}, {"Write", "a", strings.Repeat("x", 5000), math.MaxInt, 0}}, api.ErrLong)
	answers(t, f, []call{{"Write", "a", "x", 3999, 0}}, api.OK)
	tells(t, c, f, api.Item{Path: "a", Data: "Abcyz!\x00\x00k" + strings.Repeat("\x00", 3990) + "x", Mode: 7, Time: 8}, dir("d"))
	answers(t, f, []call{{"Write", "a", strings.Repeat("y", 4000), 0, 0}}, api.OK)
	tells(t, c, f, api.Item{Path: "a", Data: strings.Repeat("y", 4000), Mode: 7, Time: 8}, dir("d"))
}

func TestP9Cut(t *testing.T) {
	c := built(t, chip.New(32, 16, nil), dir("d"), api.Item{Path: "a", Data: "0123", Mode: 7, Time: 8})
	f := mount(t, c)
	for _, x := range []struct {
		size int
		want string
	}{{4, "0123"}, {2, "01"}, {3, "01\x00"}, {0, ""}, {1, "\x00"}, {4000, strings.Repeat("\x00", 4000)}} {
		answers(t, f, []call{{"Cut", "a", "", x.size, 0}}, api.OK)
		tells(t, c, f, api.Item{Path: "a", Data: x.want, Mode: 7, Time: 8}, dir("d"))
	}
	answers(t, f, []call{{"Cut", "b", "", 0, 0}, {"Cut", "d/b", "", 4001, 0}}, api.ErrNone)
	answers(t, f, []call{{"Cut", "d", "", 0, 0}, {"Cut", "d", "", 4001, 0}}, api.ErrKind)
	answers(t, f, []call{{"Cut", "a", "", 4001, 0}, {"Cut", "a", "", math.MaxInt, 0}}, api.ErrLong)
}

func TestP9MkdirAttr(t *testing.T) {
	c := built(t, chip.New(32, 16, nil), file("a", "x"))
	f := mount(t, c)
	answers(t, f, []call{{"Mkdir", "d", "", 0, 0}, {"Mkdir", "d/d", "", 0, 0}, {"Put", "d/d/f", "y", 0, 0}}, api.OK)
	tells(t, c, f, file("a", "x"), dir("d"), dir("d/d"), file("d/d/f", "y"))
	answers(t, f, []call{{"Mkdir", "d", "", 0, 0}, {"Mkdir", "a", "", 0, 0}, {"Mkdir", "d/d/f", "", 0, 0}}, api.ErrThere)
	answers(t, f, []call{{"Attr", "x", "", 0, 0}, {"Attr", "d/x", "", 0, 0}}, api.ErrNone)
	answers(t, f, []call{{"Attr", "a", "", 4095, 1<<31 - 1}, {"Attr", "d", "", 1, 0}, {"Attr", "d/d/f", "", 0, 1}}, api.OK)
	tells(t, c, f, api.Item{Path: "a", Data: "x", Mode: 4095, Time: 1<<31 - 1}, api.Item{Path: "d", Dir: true, Mode: 1}, dir("d/d"), api.Item{Path: "d/d/f", Data: "y", Time: 1})
	answers(t, f, []call{{"Attr", "a", "", 0, 0}, {"Attr", "a", "", 0, 0}}, api.OK)
	tells(t, c, f, file("a", "x"), api.Item{Path: "d", Dir: true, Mode: 1}, dir("d/d"), api.Item{Path: "d/d/f", Data: "y", Time: 1})
}

func TestP9Remove(t *testing.T) {
	c := built(t, chip.New(32, 16, nil), dir("d"), dir("d/e"), file("d/e/f", "x"), file("d.x", "y"), dir("e"))
	f := mount(t, c)
	answers(t, f, []call{{"Remove", "x", "", 0, 0}, {"Remove", "d/x", "", 0, 0}}, api.ErrNone)
	answers(t, f, []call{{"Remove", "d", "", 0, 0}, {"Remove", "d/e", "", 0, 0}}, api.ErrBusy)
	answers(t, f, []call{{"Remove", "e", "", 0, 0}, {"Remove", "d/e/f", "", 0, 0}, {"Remove", "d/e", "", 0, 0}}, api.OK)
	tells(t, c, f, dir("d"), file("d.x", "y"))
	answers(t, f, []call{{"Remove", "e", "", 0, 0}}, api.ErrNone)
	answers(t, f, []call{{"Remove", "d", "", 0, 0}, {"Remove", "d.x", "", 0, 0}}, api.OK)
	tells(t, c, f)
}

func TestP9Move(t *testing.T) {
	l := []api.Item{{Path: "a", Data: "z", Mode: 3, Time: 4}, dir("d"), {Path: "d/e", Dir: true, Mode: 1, Time: 2}, file("d/e/f", "x"), file("d.x", "y"), dir("p"), dir("p/p"), dir("p/p/p"), dir("p/p/p/p")}
	for _, x := range []struct {
		from, to string
		want     api.Errno
	}{
		// of from all comes ahead of to, but that to is none
		{"b", "", api.ErrArg}, {"a/b", "d/..", api.ErrArg}, {"x/y", "x//y", api.ErrArg}, {"a/b", "a/c", api.ErrKind}, {"a/b", "x/y", api.ErrKind}, {"x/y", "a/b", api.ErrNone}, {"x", "a/b", api.ErrNone}, {"x", "a", api.ErrNone}, {"x", "x", api.ErrNone}, {"d/x", "d.x/y", api.ErrNone},
		{"d", "a/b", api.ErrKind}, {"a", "a/b", api.ErrKind}, {"a", "a/b/c", api.ErrKind}, {"a", "x/y", api.ErrNone}, {"d", "d/x/y", api.ErrNone},
		{"a", "a", api.ErrThere}, {"d", "d", api.ErrThere}, {"d", "d/e", api.ErrThere}, {"d/e", "d", api.ErrThere}, {"a", "d", api.ErrThere}, {"p", "p/p/p/p", api.ErrThere},
		{"d", "d/x", api.ErrBusy}, {"d", "d/e/x", api.ErrBusy}, {"p", "p/p/p/p/x", api.ErrBusy}, {"d/e", "d/e/e", api.ErrBusy},
		{"d", "p/p/p/p/d", api.ErrLong}, {"p", "d/e/p", api.OK}, {"d/e", "p/p/p/p/e", api.OK}, {"d", "p/p/p/d", api.OK},
		{"a", "d/a", api.OK}, {"d/e/f", "f", api.OK}, {"d.x", "d/e/d.x", api.OK}, {"d", "d.y", api.OK}, {"d", "dd", api.OK}, {"d/e", "e", api.OK},
	} {
		c := built(t, chip.New(32, 16, nil), l...)
		f := mount(t, c)
		answers(t, f, []call{{"Move", x.from, x.to, 0, 0}}, x.want)
		want := l
		if x.want == api.OK {
			want = inOrder(moved(slices.Clone(l), x.from, x.to))
		}
		tells(t, c, f, want...)
	}
}

// TestP9Examples: the document's.
func TestP9Examples(t *testing.T) {
	f := mount(t, built(t, chip.New(8, 8, nil), dir("d"), file("d/f", ""), file("d.x", "")))
	answers(t, f, []call{{"Move", "d", "d/e", 0, 0}, {"Remove", "d", "", 0, 0}}, api.ErrBusy)
	answers(t, f, []call{{"Put", "d.x/y", "", 0, 0}}, api.ErrKind)
	answers(t, f, []call{{"Put", "e/y", "", 0, 0}}, api.ErrNone)
}

// TestP9Any: calls of all kinds, against the document's words once more.
func TestP9Any(t *testing.T) {
	r := rand.New(rand.NewSource(1))
	were := map[api.Errno]int{}
	for range 40 {
		c := built(t, chip.New(32, 16, nil))
		f := mount(t, c)
		var l []api.Item
		for range 250 {
			x := anyCall(r, l, pick(r, 10, 100, 400))
			next, want := x.by(l)
			e := x.on(f)
			were[e]++
			if e != want && (e != api.ErrFull || light(c, next)) {
				t.Fatalf("%.60v on %.60v = %d, want %d", x, l, e, want)
			}
			if e == api.OK {
				l = next
			}
			tells(t, c, f, l...)
		}
	}
	for _, e := range []api.Errno{api.OK, api.ErrArg, api.ErrNone, api.ErrThere, api.ErrKind, api.ErrBusy, api.ErrLong} {
		if were[e] < 20 {
			t.Errorf("the answer %d came %d times", e, were[e])
		}
	}
}

// TestP9NoPower: without power the errors of a call come first, then ErrDev, whatever room there is, and also where nothing would change; with the power back all goes on.
func TestP9NoPower(t *testing.T) {
	l := []api.Item{file("a", "x"), dir("d"), file("d/f", "y")}
	c := built(t, chip.New(8, 4, nil), l...)
	f := mount(t, c)
	c.Die(0, 0)
	c.Erase(7)
	answers(t, f, []call{
		{"Put", "a", "z", 0, 0}, {"Put", "a", "x", 0, 0}, {"Put", "b", noise(rand.New(rand.NewSource(1)), 4000), 0, 0}, {"Write", "a", "z", 0, 0}, {"Write", "a", "", 9, 0}, {"Cut", "a", "", 0, 0}, {"Cut", "a", "", 1, 0},
		{"Mkdir", "b", "", 0, 0}, {"Attr", "a", "", 1, 1}, {"Attr", "a", "", 0, 0}, {"Remove", "a", "", 0, 0}, {"Move", "d", "e", 0, 0},
	}, api.ErrDev)
	answers(t, f, []call{{"Put", "", "", 0, 0}, {"Write", "a", "", -1, 0}, {"Attr", "a", "", 4096, 0}}, api.ErrArg)
	answers(t, f, []call{{"Put", "d", "", 0, 0}, {"Put", "a/b", "", 0, 0}, {"Cut", "d", "", 0, 0}}, api.ErrKind)
	answers(t, f, []call{{"Put", "x/y", "", 0, 0}, {"Remove", "x", "", 0, 0}, {"Move", "x", "y", 0, 0}}, api.ErrNone)
	answers(t, f, []call{{"Mkdir", "a", "", 0, 0}, {"Move", "a", "d", 0, 0}}, api.ErrThere)
	answers(t, f, []call{{"Remove", "d", "", 0, 0}, {"Move", "d", "d/e", 0, 0}}, api.ErrBusy)
	answers(t, f, []call{{"Cut", "a", "", 4001, 0}}, api.ErrLong)
	if e := f.Sync(); e != api.ErrDev {
		t.Errorf("Sync = %d", e)
	}
	c.Power()
	tells(t, c, f, l...)
	answers(t, f, []call{{"Put", "a", "z", 0, 0}}, api.OK)
	tells(t, c, f, file("a", "z"), dir("d"), file("d/f", "y"))
}

// TestP9Same: a change by which nothing changes does nothing to the chip.
func TestP9Same(t *testing.T) {
	c := built(t, chip.New(4, 4, nil), file("a", "x"))
	f := mount(t, c)
	c.Die(0, 0)
	answers(t, f, []call{{"Write", "a", "", 0, 0}, {"Write", "a", "", math.MaxInt, 0}, {"Write", "a", "x", 0, 0}, {"Put", "a", "x", 0, 0}, {"Cut", "a", "", 1, 0}, {"Attr", "a", "", 0, 0}}, api.OK)
	if e := f.Sync(); e != api.OK || c.Dead() {
		t.Errorf("Sync = %d, dead: %v", e, c.Dead())
	}
}

// TestP2Change: the same calls make the same answers and the same chip.
func TestP2Change(t *testing.T) {
	for seed := range int64(10) {
		var chips [2][]string
		for k := range chips {
			r := rand.New(rand.NewSource(seed))
			c := built(t, chip.New(8, 8, []int{3}), anyTree(r, 200)...)
			f := mount(t, c)
			c.Fail(200, 5)
			for range 100 {
				e := anyCall(r, f.Tree(), 40).on(f)
				chips[k] = append(chips[k], strconv.Itoa(int(e)))
			}
			chips[k] = append(chips[k], image(c)...)
		}
		if !slices.Equal(chips[0], chips[1]) {
			t.Fatal("the same calls made different chips")
		}
	}
}

// TestP2ChangeTold: what was told ahead of a change stays as it was told.
func TestP2ChangeTold(t *testing.T) {
	f := mount(t, built(t, chip.New(8, 8, nil), file("a", "x"), file("b", "y")))
	l := f.Tree()
	names, _ := f.List("")
	data, _ := f.Read("a")
	answers(t, f, []call{{"Write", "a", "z", 0, 0}, {"Remove", "b", "", 0, 0}, {"Put", "c", "", 0, 0}}, api.OK)
	if !slices.Equal(l, []api.Item{file("a", "x"), file("b", "y")}) || !slices.Equal(names, []string{"a", "b"}) || data != "x" {
		t.Errorf("%v, %q, %q", l, names, data)
	}
	if names, _ := f.List(""); !slices.Equal(names, []string{"a", "c"}) {
		t.Errorf("List = %q", names)
	}
	if data, _ := f.Read("a"); data != "z" {
		t.Errorf("Read = %q", data)
	}
}
