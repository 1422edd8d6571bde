package posix

import (
	"strings"

	"undercroft/api"
)

// isName tells whether a name may be.
func isName(s string) bool {
	if len(s) < 1 || len(s) > api.MaxPart || s == "." || s == ".." {
		return false
	}
	for i := range len(s) {
		if s[i] < 33 || s[i] > 126 || s[i] == '/' {
			return false
		}
	}
	return true
}

// split is the names of a path: none of the first directory's.
func split(path string) ([]string, api.Errno) {
	if path == "/" {
		return nil, api.OK
	}
	if len(path) > api.MaxText || !strings.HasPrefix(path, "/") {
		return nil, api.ErrPath
	}
	names := strings.Split(path[1:], "/")
	if len(names) > api.MaxDepth {
		return nil, api.ErrPath
	}
	for _, n := range names {
		if !isName(n) {
			return nil, api.ErrPath
		}
	}
	return names, api.OK
}

// find is the number of the node that names lead to.
func (t *Tree) find(names []string) (int, api.Errno) {
	at, e := firstNode, api.OK
walk:
	for _, name := range names {
		next, ok := t.entry(at, name)
		switch {
		case t.nodes[at].kind != api.Dir:
			e = api.ErrNotDir
			break walk
		case !ok:
			e = api.ErrNoFile
			break walk
		}
		at = next
	}
	return at, e
}

// entry is the node that a name of a directory leads to.
func (t *Tree) entry(up int, name string) (int, bool) {
	n := t.nodes[up]
	if n.kind != api.Dir {
		return 0, false
	}
	return n.names.Get(name)
}

// findPath is the number of the node that a path leads to.
func (t *Tree) findPath(path string) (int, api.Errno) {
	names, e := split(path)
	if e != api.OK {
		return 0, e
	}
	return t.find(names)
}

// file is the number of the file that names lead to.
func (t *Tree) file(names []string) (int, api.Errno) {
	no, e := t.find(names)
	if e == api.OK && t.nodes[no].kind != api.File {
		e = api.ErrIsDir
	}
	return no, e
}

// goes is the directory in which the last one of names is, or would be; and that name.
func (t *Tree) goes(names []string) (int, string, api.Errno) {
	last := len(names) - 1
	up, e := t.find(names[:last])
	if e == api.OK && t.nodes[up].kind != api.Dir {
		e = api.ErrNotDir
	}
	return up, names[last], e
}

// has tells whether a directory has a name.
func (t *Tree) has(up int, name string) bool {
	_, ok := t.entry(up, name)
	return ok
}
