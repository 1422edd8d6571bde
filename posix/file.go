package posix

import "undercroft/api"

// filePath is the number of the file that a path leads to.
func (t *Tree) filePath(path string) (int, api.Errno) {
	names, e := split(path)
	if e != api.OK {
		return 0, e
	}
	return t.file(names)
}

// grown is bytes with noughts up to a size, if they are fewer.
func grown(b []byte, size int) []byte {
	if len(b) >= size {
		return b
	}
	return append(b, make([]byte, size-len(b))...)
}

// Write changes a file's bytes.
func (t *Tree) Write(path string, at int, b []byte) api.Errno {
	no, e := t.filePath(path)
	if e != api.OK {
		return e
	}
	if at < 0 || at > api.MaxFile || len(b) > api.MaxFile-at {
		return api.ErrSize
	}
	if len(b) == 0 {
		return api.OK
	}
	return t.change(func(n *Tree) api.Errno {
		x := n.edit(no)
		x.data = grown(x.data, at+len(b))
		copy(x.data[at:], b)
		return api.OK
	})
}

// Read is bytes of a file.
func (t *Tree) Read(path string, at, many int) ([]byte, api.Errno) {
	no, e := t.filePath(path)
	if e != api.OK {
		return nil, e
	}
	if at < 0 || many < 0 {
		return nil, api.ErrSize
	}
	data := t.nodes[no].data
	if at >= len(data) {
		return nil, api.OK
	}
	return append([]byte(nil), data[at:at+min(many, len(data)-at)]...), api.OK
}

// Truncate gives a file another size.
func (t *Tree) Truncate(path string, size int) api.Errno {
	no, e := t.filePath(path)
	if e != api.OK {
		return e
	}
	if size < 0 || size > api.MaxFile {
		return api.ErrSize
	}
	return t.change(func(n *Tree) api.Errno {
		x := n.edit(no)
		x.data = grown(x.data, size)[:size]
		return api.OK
	})
}
