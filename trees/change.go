package trees

import (
	"strings"

	"nand/api"
)

// Put makes a file of these bytes, or makes it anew.
func (t Tree) Put(path string, data string) api.Errno {
	if e := t.reach(path); e != api.OK {
		return e
	}
	n, there := t[path]
	if n.Dir {
		return api.ErrKind
	}
	if len(data) > api.MaxFile || !there && t.full() {
		return api.ErrLong
	}
	n.Data = strings.Clone(data)
	t.set(path, n)
	return api.OK
}

// Write writes bytes into a file, from at on.
func (t Tree) Write(path string, at int, data string) api.Errno {
	if at < 0 {
		return api.ErrArg
	}
	n, e := t.file(path)
	if e != api.OK || data == "" {
		return e
	}
	// Held against what is left, as at and the length together may be more than a number can be.
	if at > api.MaxFile-len(data) {
		return api.ErrLong
	}
	b := sized(n.Data, max(len(n.Data), at+len(data)))
	copy(b[at:], data)
	n.Data = string(b)
	t.set(path, n)
	return api.OK
}

// Cut makes a file just so long.
func (t Tree) Cut(path string, size int) api.Errno {
	if size < 0 {
		return api.ErrArg
	}
	n, e := t.file(path)
	if e != api.OK {
		return e
	}
	if size > api.MaxFile {
		return api.ErrLong
	}
	n.Data = string(sized(n.Data, size))
	t.set(path, n)
	return api.OK
}

// sized is the first so many bytes of data, with bytes 0 behind it if it has fewer.
func sized(data string, size int) []byte {
	b := make([]byte, size)
	copy(b, data)
	return b
}

// Mkdir makes an empty directory.
func (t Tree) Mkdir(path string) api.Errno {
	if e := t.reach(path); e != api.OK {
		return e
	}
	if _, there := t[path]; there {
		return api.ErrThere
	}
	if t.full() {
		return api.ErrLong
	}
	t.set(path, Node{Dir: true})
	return api.OK
}

// Attr sets the mode and the time.
func (t Tree) Attr(path string, mode int, time int) api.Errno {
	if !isMode(mode) || !isTime(time) {
		return api.ErrArg
	}
	n, e := t.find(path)
	if e != api.OK {
		return e
	}
	n.Mode, n.Time = mode, time
	t.set(path, n)
	return api.OK
}

// Remove takes a file or an empty directory away.
func (t Tree) Remove(path string) api.Errno {
	if _, e := t.find(path); e != api.OK {
		return e
	}
	if len(t.from(path)) > 1 {
		return api.ErrBusy
	}
	delete(t, path)
	return api.OK
}

// Move moves what is at a path, with all that is in it.
func (t Tree) Move(from string, to string) api.Errno {
	if e := t.mayMove(from, to); e != api.OK {
		return e
	}
	paths := t.from(from)
	for _, path := range paths {
		if deep(to+path[len(from):]) > api.MaxDeep {
			return api.ErrLong
		}
	}
	for _, path := range paths {
		t.set(to+path[len(from):], t[path])
		delete(t, path)
	}
	return api.OK
}

// mayMove tells whether something is at from that can be moved to to, as far as the two paths alone can tell.
func (t Tree) mayMove(from string, to string) api.Errno {
	if !isPath(from) || !isPath(to) {
		return api.ErrArg
	}
	if _, e := t.find(from); e != api.OK {
		return e
	}
	if e := t.enter(to); e != api.OK {
		return e
	}
	if _, there := t[to]; there {
		return api.ErrThere
	}
	if isIn(to, from) {
		return api.ErrBusy
	}
	return api.OK
}

// from is the path of something that is there, and of all that is in it.
func (t Tree) from(path string) []string {
	paths := []string{path}
	for p := range t {
		if isIn(p, path) {
			paths = append(paths, p)
		}
	}
	return paths
}

// set puts something at a path. The path is another's, and not kept.
func (t Tree) set(path string, n Node) { t[strings.Clone(path)] = n }

// full tells whether there can be no more items.
func (t Tree) full() bool { return len(t) >= api.MaxItems }
