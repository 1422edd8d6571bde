package posix

import (
	"undercroft/api"
	"undercroft/dict"
	"undercroft/words"
)

const ownLen = 9

// chunk is a piece of what a node has, and its place.
type chunk struct {
	at   int
	data []byte
}

// size is a node's, in bytes.
func (n *node) size() int {
	if n.kind == api.Dir {
		return api.PageSize * len(n.names.Pages())
	}
	return len(n.data)
}

// chunks are what a node has beside its own cell; those of noughts alone are none.
func (n *node) chunks() []chunk {
	var l []chunk
	if n.kind == api.Dir {
		for i, p := range n.names.Pages() {
			l = append(l, chunk{i, p})
		}
		return l
	}
	for i, b := 0, n.data; len(b) > 0; i++ {
		many := min(len(b), api.Chunk)
		if !blank(b[:many]) {
			l = append(l, chunk{i, b[:many]})
		}
		b = b[many:]
	}
	return l
}

// blank tells whether bytes are noughts alone.
func blank(b []byte) bool {
	for _, x := range b {
		if x != 0 {
			return false
		}
	}
	return true
}

// own is a node's own cell.
func (n *node) own() []byte {
	b := make([]byte, 0, ownLen)
	for _, f := range [4][2]int{{n.kind, 1}, {n.mode, 2}, {n.links, 2}, {n.size(), 4}} {
		for i := range f[1] {
			b = append(b, byte(f[0]>>(8*i)))
		}
	}
	return b
}

// Cells are its cells.
func (t *Tree) Cells() []api.Cell {
	var l []api.Cell
	for _, no := range t.numbers() {
		n := t.nodes[no]
		l = append(l, api.Cell{Object: no, At: -1, Data: n.own()})
		for _, c := range n.chunks() {
			l = append(l, api.Cell{Object: no, At: c.at, Data: append([]byte(nil), c.data...)})
		}
	}
	return l
}

// Open is the one that stands in cells.
func Open(cells []api.Cell) (*Tree, api.Errno) {
	if !words.Content(cells) {
		return nil, api.ErrPosix
	}
	t := &Tree{nodes: map[int]*node{}}
	for len(cells) > 0 {
		many := 1
		for many < len(cells) && cells[many].Object == cells[0].Object {
			many++
		}
		n, ok := openNode(cells[:many])
		if !ok {
			return nil, api.ErrPosix
		}
		t.nodes[cells[0].Object] = n
		cells = cells[many:]
	}
	if len(t.nodes) > api.MaxNodes || !t.isTree() {
		return nil, api.ErrPosix
	}
	return t, api.OK
}

// number is the one that stands in bytes, the lowest first.
func number(b []byte) int {
	n := 0
	for i, x := range b {
		n |= int(x) << (8 * i)
	}
	return n
}

// openNode is the node whose cells these are.
func openNode(cells []api.Cell) (*node, bool) {
	own := cells[0].Data
	if cells[0].At != -1 || len(own) != ownLen {
		return nil, false
	}
	n := &node{common: common{int(own[0]), number(own[1:3]), number(own[3:5])}}
	size := number(own[5:])
	ok := false
	switch n.kind {
	case api.Dir:
		ok = n.openNames(cells[1:]) && size == n.size() && n.links == 1
	case api.File:
		ok = size <= api.MaxFile && n.openData(cells[1:], size) && n.links >= 1
	}
	return n, ok && n.mode <= mostMode
}

// openNames takes up the pages of a directory.
func (n *node) openNames(cells []api.Cell) bool {
	var pages [][]byte
	for i, c := range cells {
		if c.At != i {
			return false
		}
		pages = append(pages, c.Data)
	}
	d, e := dict.Open(pages)
	if e != api.OK {
		return false
	}
	n.names = d
	for _, x := range d.List() {
		if !isName(x.Name) {
			return false
		}
	}
	return true
}

// openData takes up the chunks of a file.
func (n *node) openData(cells []api.Cell, size int) bool {
	n.data = make([]byte, size)
	for _, c := range cells {
		at := c.At * api.Chunk
		if at >= size || len(c.Data) != min(api.Chunk, size-at) || blank(c.Data) {
			return false
		}
		copy(n.data[at:], c.Data)
	}
	return true
}

// isTree tells whether all nodes hang on the first directory: each directory by one name, each file by as many as it has links.
func (t *Tree) isTree() bool {
	first := t.nodes[firstNode]
	if first == nil || first.kind != api.Dir {
		return false
	}
	named := map[int]int{firstNode: 1}
	for work := []int{firstNode}; len(work) > 0; {
		n := t.nodes[work[0]]
		work = work[1:]
		for _, x := range n.names.List() {
			child := t.nodes[x.Value]
			if child == nil {
				return false
			}
			named[x.Value]++
			if child.kind != api.Dir {
				continue
			}
			if named[x.Value] > 1 {
				return false
			}
			work = append(work, x.Value)
		}
	}
	for no, n := range t.nodes {
		if named[no] != n.links {
			return false
		}
	}
	return true
}
