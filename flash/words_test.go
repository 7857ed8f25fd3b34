package flash_test

import (
	"math/rand"
	"slices"
	"strconv"
	"strings"

	"nand/api"
	"nand/flash"
)

// call: one call of P9, with what it is handed.
type call struct {
	name  string
	path  string
	other string // where to, or the bytes
	at    int    // or the size, or the mode
	time  int
}

// on calls it.
func (x call) on(f *flash.FS) api.Errno {
	switch x.name {
	case "Put":
		return f.Put(x.path, x.other)
	case "Write":
		return f.Write(x.path, x.at, x.other)
	case "Cut":
		return f.Cut(x.path, x.at)
	case "Mkdir":
		return f.Mkdir(x.path)
	case "Attr":
		return f.Attr(x.path, x.at, x.time)
	case "Remove":
		return f.Remove(x.path)
	}
	return f.Move(x.path, x.other)
}

// by tells what the document's words say of it: the answer on a chip with room that has not failed, and the tree behind it.
func (x call) by(l []api.Item) ([]api.Item, api.Errno) {
	if e := x.wrong(l); e != api.OK {
		return l, e
	}
	next := slices.Clone(l)
	at := where(next, x.path)
	if at < 0 && (x.name == "Put" || x.name == "Mkdir") {
		next = append(next, api.Item{Path: x.path, Dir: x.name == "Mkdir"})
		at = len(next) - 1
	}
	switch x.name {
	case "Put":
		next[at].Data = x.other
	case "Write":
		next[at].Data = written(next[at].Data, x.at, x.other)
	case "Cut":
		next[at].Data = (next[at].Data + strings.Repeat("\x00", 4000))[:x.at]
	case "Attr":
		next[at].Mode, next[at].Time = x.at, x.time
	case "Remove":
		next = slices.Delete(next, at, at+1)
	case "Move":
		next = moved(next, x.path, x.other)
	}
	return inOrder(next), api.OK
}

// written: bytes with others written into them.
func written(data string, at int, more string) string {
	if more == "" {
		return data
	}
	front := (data + strings.Repeat("\x00", 4000))[:at]
	return front + more + data[min(len(data), at+len(more)):]
}

// moved: items, some of them elsewhere.
func moved(l []api.Item, from string, to string) []api.Item {
	for i, a := range l {
		if a.Path == from || strings.HasPrefix(a.Path, from+"/") {
			l[i].Path = to + strings.TrimPrefix(a.Path, from)
		}
	}
	return l
}

// where: at which place of a list a path is; -1: nowhere.
func where(l []api.Item, path string) int {
	return slices.IndexFunc(l, func(a api.Item) bool { return a.Path == path })
}

// isPath: the document's words of a path.
func isPath(path string) bool {
	names := strings.Split(path, "/")
	return len(names) <= 6 && !slices.ContainsFunc(names, func(n string) bool {
		return n == "" || n == "." || n == ".." || len(n) > 20 || strings.Contains(n, "\x00")
	})
}

// above: what P9 says of the directories in which a path is.
func above(l []api.Item, path string) api.Errno {
	e := api.OK
	for i, c := range path {
		if c != '/' {
			continue
		}
		at := where(l, path[:i])
		if at >= 0 && !l[at].Dir {
			return api.ErrKind
		}
		if at < 0 {
			e = api.ErrNone
		}
	}
	return e
}

// wrong: why a call is refused, by P9's words in their order.
func (x call) wrong(l []api.Item) api.Errno {
	if !isPath(x.path) || x.name == "Move" && !isPath(x.other) {
		return api.ErrArg
	}
	if (x.name == "Write" || x.name == "Cut") && x.at < 0 {
		return api.ErrArg
	}
	if x.name == "Attr" && (x.at < 0 || x.at > 4095 || x.time < 0 || x.time > 2147483647) {
		return api.ErrArg
	}
	if e := above(l, x.path); e != api.OK {
		return e
	}
	at := where(l, x.path)
	isDir := at >= 0 && l[at].Dir
	switch x.name {
	case "Put":
		return first(isDir, api.ErrKind, len(x.other) > 4000 || at < 0 && len(l) == 60, api.ErrLong)
	case "Write":
		return first(at < 0, api.ErrNone, isDir, api.ErrKind, x.other != "" && (x.at > 4000 || x.at+len(x.other) > 4000), api.ErrLong)
	case "Cut":
		return first(at < 0, api.ErrNone, isDir, api.ErrKind, x.at > 4000, api.ErrLong)
	case "Mkdir":
		return first(at >= 0, api.ErrThere, len(l) == 60, api.ErrLong)
	case "Attr":
		return first(at < 0, api.ErrNone)
	case "Remove":
		return first(at < 0, api.ErrNone, slices.ContainsFunc(l, func(a api.Item) bool { return strings.HasPrefix(a.Path, x.path+"/") }), api.ErrBusy)
	}
	if at < 0 {
		return api.ErrNone
	}
	if e := above(l, x.other); e != api.OK {
		return e
	}
	tooDeep := slices.ContainsFunc(moved(slices.Clone(l), x.path, x.other), func(a api.Item) bool { return strings.Count(a.Path, "/") > 5 })
	return first(where(l, x.other) >= 0, api.ErrThere, strings.HasPrefix(x.other, x.path+"/"), api.ErrBusy, tooDeep, api.ErrLong)
}

// first: of conditions, each with an answer behind it, the first one's that holds.
func first(pairs ...any) api.Errno {
	for i := 0; i < len(pairs); i += 2 {
		if pairs[i].(bool) {
			return pairs[i+1].(api.Errno)
		}
	}
	return api.OK
}

// pick: one of some.
func pick[T any](r *rand.Rand, l ...T) T { return l[r.Intn(len(l))] }

// anyCall: a call on a tree, mostly one that may be, with up to so many bytes.
func anyCall(r *rand.Rand, l []api.Item, most int) call {
	x := call{name: pick(r, "Put", "Put", "Put", "Write", "Write", "Cut", "Mkdir", "Mkdir", "Attr", "Remove", "Remove", "Move", "Move"), path: anyPath(r, l)}
	many := r.Intn(most + 1)
	x.other = pick(r, noise(r, many), strings.Repeat("x", many), strconv.Itoa(r.Intn(1000)), "")
	x.at = pick(r, r.Intn(most+1), r.Intn(most+1), r.Intn(most+1), 0, 4000, 4001, -1, 1<<62, -1<<62)
	x.time = pick(r, r.Intn(1<<31), 0, 1<<31-1, 1<<31, -1)
	if x.name == "Attr" {
		x.at = pick(r, r.Intn(4096), 0, 4095, 4096, -1)
	}
	if x.name == "Move" {
		x.other = anyPath(r, l)
	}
	return x
}

// anyPath: the path of something, or of something new in something.
func anyPath(r *rand.Rand, l []api.Item) string {
	path := pick(r, "a", "b", "c", "d", "a.", "", "..", "e/f")
	if r.Intn(3) > 0 && len(l) > 0 {
		path = l[r.Intn(len(l))].Path
		if r.Intn(2) == 0 {
			path += "/" + pick(r, "a", "b", "a.", strings.Repeat("n", 20), "")
		}
	}
	return path
}
