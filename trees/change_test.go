package trees

import (
	"maps"
	"math"
	"strings"
	"testing"

	"nand/api"
)

// TestRefused: a change that is refused leaves the tree as it is.
func TestRefused(t *testing.T) {
	long := strings.Repeat("x", api.MaxFile+1)
	for k, x := range []struct {
		do   func(Tree) api.Errno
		want api.Errno
	}{
		{func(t Tree) api.Errno { return t.Put("", "x") }, api.ErrArg},
		{func(t Tree) api.Errno { return t.Put("d", "x") }, api.ErrKind},
		{func(t Tree) api.Errno { return t.Put("d/new", long) }, api.ErrLong},
		{func(t Tree) api.Errno { return t.Write("d.x", -1, "x") }, api.ErrArg},
		{func(t Tree) api.Errno { return t.Write("d.x", api.MaxFile, "x") }, api.ErrLong},
		{func(t Tree) api.Errno { return t.Write("d.x", math.MaxInt, "x") }, api.ErrLong},
		{func(t Tree) api.Errno { return t.Cut("d/none", 1) }, api.ErrNone},
		{func(t Tree) api.Errno { return t.Cut("d.x", api.MaxFile+1) }, api.ErrLong},
		{func(t Tree) api.Errno { return t.Mkdir("d/e") }, api.ErrThere},
		{func(t Tree) api.Errno { return t.Mkdir("d.x/e") }, api.ErrKind},
		{func(t Tree) api.Errno { return t.Attr("d", api.MaxMode+1, 0) }, api.ErrArg},
		{func(t Tree) api.Errno { return t.Remove("d/e") }, api.ErrBusy},
		{func(t Tree) api.Errno { return t.Move("d", "d/e/f") }, api.ErrBusy},
		{func(t Tree) api.Errno { return t.Move("d", "none/d") }, api.ErrNone},
		{func(t Tree) api.Errno { return t.Move("d", "d.x") }, api.ErrThere},
	} {
		tree := some(t)
		if e := x.do(tree); e != x.want || !maps.Equal(tree, some(t)) {
			t.Errorf("case %d: %d, want %d; the tree is %.60v", k, e, x.want, tree)
		}
	}
}

// TestMoveAll: what is in a directory goes with it, and what only begins with the same bytes stays.
func TestMoveAll(t *testing.T) {
	tree := some(t)
	want := Tree{"d.x": tree["d.x"], "n": tree["d"], "n/empty": tree["d/empty"], "n/e": tree["d/e"], "n/e/plain": tree["d/e/plain"]}
	if e := tree.Move("d", "n"); e != api.OK || !maps.Equal(tree, want) {
		t.Errorf("Move = %d; the tree is %.60v", e, tree)
	}
}

func TestSized(t *testing.T) {
	for size, want := range []string{"", "a", "ab", "ab\x00", "ab\x00\x00"} {
		if got := string(sized("ab", size)); got != want {
			t.Errorf("sized(ab, %d) = %q", size, got)
		}
	}
}
