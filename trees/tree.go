// Package trees: trees of files and directories, kept in a map, and as texts.
package trees

import (
	"maps"
	"slices"
	"strings"

	"nand/api"
)

// Node is a file or a directory, without its path.
type Node struct {
	Dir  bool
	Data string
	Mode int
	Time int
}

// Tree has the files and directories by their paths.
type Tree map[string]Node

// New makes a tree of items, of which nothing is kept; ErrTree, if they are none.
func New(items []api.Item) (Tree, api.Errno) {
	if len(items) > api.MaxItems {
		return nil, api.ErrTree
	}
	t := make(Tree, len(items))
	for _, item := range items {
		if _, twice := t[item.Path]; twice || !isItem(item) {
			return nil, api.ErrTree
		}
		t[strings.Clone(item.Path)] = Node{item.Dir, strings.Clone(item.Data), item.Mode, item.Time}
	}
	for path := range t {
		if t.enter(path) != api.OK {
			return nil, api.ErrTree
		}
	}
	return t, api.OK
}

// isItem tells whether an item may be in a tree, as far as it alone can tell.
func isItem(item api.Item) bool {
	if !isMode(item.Mode) || !isTime(item.Time) {
		return false
	}
	if len(item.Data) > api.MaxFile || item.Dir && item.Data != "" {
		return false
	}
	return isPath(item.Path)
}

// isMode tells whether a number may be a mode.
func isMode(n int) bool { return n >= 0 && n <= api.MaxMode }

// isTime tells whether a number may be a time.
func isTime(n int) bool { return n >= 0 && n <= api.MaxTime }

// Items is the tree as a list, in its order.
func (t Tree) Items() []api.Item {
	list := make([]api.Item, 0, len(t))
	for _, path := range slices.SortedFunc(maps.Keys(t), compare) {
		n := t[path]
		list = append(list, api.Item{Path: path, Dir: n.Dir, Data: n.Data, Mode: n.Mode, Time: n.Time})
	}
	return list
}

// enter goes through the directories in which a path is. From the front: behind the first that is a file or not there, nothing can be.
func (t Tree) enter(path string) api.Errno {
	for i := range len(path) {
		if path[i] != '/' {
			continue
		}
		n, there := t[path[:i]]
		if !there {
			return api.ErrNone
		}
		if !n.Dir {
			return api.ErrKind
		}
	}
	return api.OK
}

// reach tells whether a text is a path at which something may be: what it is in is there.
func (t Tree) reach(path string) api.Errno {
	if !isPath(path) {
		return api.ErrArg
	}
	return t.enter(path)
}

// find is what is at a path.
func (t Tree) find(path string) (Node, api.Errno) {
	if e := t.reach(path); e != api.OK {
		return Node{}, e
	}
	n, there := t[path]
	if !there {
		return Node{}, api.ErrNone
	}
	return n, api.OK
}

// file is the file at a path.
func (t Tree) file(path string) (Node, api.Errno) {
	n, e := t.find(path)
	if e != api.OK {
		return Node{}, e
	}
	if n.Dir {
		return Node{}, api.ErrKind
	}
	return n, api.OK
}

// Read is the bytes of a file.
func (t Tree) Read(path string) (string, api.Errno) {
	n, e := t.file(path)
	return n.Data, e
}

// List is the names in a directory (of the empty path: in the root), rising.
func (t Tree) List(path string) ([]string, api.Errno) {
	if path != "" {
		n, e := t.find(path)
		if e == api.OK && !n.Dir {
			e = api.ErrKind
		}
		if e != api.OK {
			return nil, e
		}
	}
	var names []string
	for p := range t {
		if in, name := cutLast(p); in == path {
			names = append(names, name)
		}
	}
	slices.Sort(names)
	return names, api.OK
}
