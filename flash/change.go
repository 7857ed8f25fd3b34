package flash

import (
	"maps"

	"nand/api"
	"nand/trees"
)

// change makes a change of the tree, and lays it down; one that cannot be laid down is taken back.
func (f *FS) change(do func(trees.Tree) api.Errno) (e api.Errno) {
	was := maps.Clone(f.tree)
	defer func() {
		if e != api.OK {
			f.tree = was
		}
	}()
	if e = do(f.tree); e != api.OK {
		return e
	}
	if f.chip.Dead() {
		return api.ErrDev
	}
	// What stays as it is lies on the chip already.
	if maps.Equal(f.tree, was) {
		return api.OK
	}
	return f.log.Add(f.tree.Text())
}

// Put makes a file, or makes it anew (P9).
func (f *FS) Put(path string, data string) api.Errno {
	return f.change(func(t trees.Tree) api.Errno { return t.Put(path, data) })
}

// Write writes into a file (P9).
func (f *FS) Write(path string, at int, data string) api.Errno {
	return f.change(func(t trees.Tree) api.Errno { return t.Write(path, at, data) })
}

// Cut makes a file shorter or longer (P9).
func (f *FS) Cut(path string, size int) api.Errno {
	return f.change(func(t trees.Tree) api.Errno { return t.Cut(path, size) })
}

// Mkdir makes a directory (P9).
func (f *FS) Mkdir(path string) api.Errno {
	return f.change(func(t trees.Tree) api.Errno { return t.Mkdir(path) })
}

// Attr sets the mode and the time (P9).
func (f *FS) Attr(path string, mode int, time int) api.Errno {
	return f.change(func(t trees.Tree) api.Errno { return t.Attr(path, mode, time) })
}

// Remove takes a file or an empty directory away (P9).
func (f *FS) Remove(path string) api.Errno {
	return f.change(func(t trees.Tree) api.Errno { return t.Remove(path) })
}

// Move moves a file or a directory (P9).
func (f *FS) Move(from string, to string) api.Errno {
	return f.change(func(t trees.Tree) api.Errno { return t.Move(from, to) })
}

// Sync makes sure of all (P11). Each change that was answered with OK lies on the chip whole, and is sure already.
func (f *FS) Sync() api.Errno {
	if f.chip.Dead() {
		return api.ErrDev
	}
	return api.OK
}
