package trees

import (
	"slices"
	"strings"

	"nand/api"
)

// isName tells whether a text is a name.
func isName(s string) bool {
	if s == "" || s == "." || s == ".." || len(s) > api.MaxName {
		return false
	}
	return !strings.ContainsAny(s, "/\x00")
}

// isPath tells whether a text is a path.
func isPath(s string) bool {
	if deep(s) > api.MaxDeep {
		return false
	}
	for name := range strings.SplitSeq(s, "/") {
		if !isName(name) {
			return false
		}
	}
	return true
}

// deep is how many names a path has.
func deep(path string) int { return strings.Count(path, "/") + 1 }

// isIn tells whether a path is in the directory at another one, or in one that is in it.
func isIn(path string, dir string) bool { return strings.HasPrefix(path, dir+"/") }

// cutLast splits a path into what it is in (empty: the root) and its last name.
func cutLast(path string) (string, string) {
	at := strings.LastIndexByte(path, '/')
	return path[:max(at, 0)], path[at+1:]
}

// compare holds two paths against each other name by name: as plain texts, d.x would come ahead of d/f.
func compare(a string, b string) int {
	return slices.Compare(strings.Split(a, "/"), strings.Split(b, "/"))
}
