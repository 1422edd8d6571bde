package dict

import (
	"undercroft/api"
)

const (
	smallLetter = 'm'
	rootLetter  = 'r'
	leafLetter  = 'l'
)

// page is one as bytes.
type page [api.PageSize]byte

// lay puts entries into a page, behind its head.
func (p *page) lay(head [headLen]byte, l []api.Entry) {
	at := copy(p[:], head[:])
	for _, x := range l {
		p[at] = byte(len(x.Name))
		at += 1 + copy(p[at+1:], x.Name)
		for i := range 4 {
			p[at+i] = byte(x.Value >> (8 * i))
		}
		at += 4
	}
}

// bytes is a page in memory of its own.
func (p *page) bytes() []byte {
	b := make([]byte, len(p))
	copy(b, p[:])
	return b
}

// Pages are the pages.
func (d *Dict) Pages() [][]byte {
	if d.small {
		var p page
		l := d.leaves[0].entries
		p.lay([headLen]byte{smallLetter, byte(len(l)), 0}, l)
		return [][]byte{p.bytes()}
	}
	var root page
	root[0], root[1] = rootLetter, byte(d.depth)
	for place, no := range d.table {
		root[2+place] = byte(no + 1)
	}
	out := [][]byte{root.bytes()}
	for _, l := range d.leaves {
		var p page
		p.lay([headLen]byte{leafLetter, byte(l.depth), byte(len(l.entries))}, l.entries)
		out = append(out, p.bytes())
	}
	return out
}

// entries are so many that stand in a page behind its head; false: they may not be.
func (p *page) entries(many int) ([]api.Entry, bool) {
	var l []api.Entry
	at := headLen
	for range many {
		if at >= len(p) {
			return nil, false
		}
		n := int(p[at])
		if n < 1 || n > api.MaxPart || at+1+n+4 > len(p) {
			return nil, false
		}
		x := api.Entry{Name: string(p[at+1 : at+1+n])}
		at += 1 + n
		for i := range 4 {
			x.Value |= int(p[at+i]) << (8 * i)
		}
		at += 4
		if x.Value > mostValue || len(l) > 0 && l[len(l)-1].Name >= x.Name {
			return nil, false
		}
		l = append(l, x)
	}
	return l, blank(p[at:])
}

// blank tells whether bytes are noughts alone.
func blank(b []byte) bool {
	for _, x := range b {
		if x != 0 {
			return false
		}
	}
	return true
}

// Open is the one that stands in pages.
func Open(pages [][]byte) (*Dict, api.Errno) {
	var l []page
	for _, b := range pages {
		var p page
		if len(b) != len(p) || len(l) == api.MaxPages {
			return nil, api.ErrDictForm
		}
		copy(p[:], b)
		l = append(l, p)
	}
	var d *Dict
	switch {
	case len(l) == 1:
		d = openSmall(&l[0])
	case len(l) > 1:
		d = openHashed(l)
	}
	if d == nil {
		return nil, api.ErrDictForm
	}
	return d, api.OK
}

// openSmall is the small one that a page is; nil: none.
func openSmall(p *page) *Dict {
	l, ok := p.entries(int(p[1]))
	if p[0] != smallLetter || p[2] != 0 || !ok {
		return nil
	}
	d := New()
	d.leaves[0].entries = l
	return d
}

// openHashed is the one that a root and leaves are; nil: none.
func openHashed(l []page) *Dict {
	root := &l[0]
	d := &Dict{depth: int(root[1])}
	if root[0] != rootLetter || d.depth > api.DictDepth {
		return nil
	}
	places := 1 << d.depth
	for _, no := range root[2 : 2+places] {
		if no < 1 || int(no) >= len(l) {
			return nil
		}
		d.table = append(d.table, int(no)-1)
	}
	if !blank(root[2+places:]) {
		return nil
	}
	deep := false
	for i := range l[1:] {
		p := &l[1+i]
		entries, ok := p.entries(int(p[2]))
		x := leaf{int(p[1]), entries}
		if p[0] != leafLetter || !ok || x.depth > d.depth || !d.suits(i, x) {
			return nil
		}
		deep = deep || x.depth == d.depth
		d.leaves = append(d.leaves, x)
	}
	if !deep {
		return nil
	}
	return d
}

// suits tells whether a leaf is in the table just where it should be, and has names of its prefix alone.
func (d *Dict) suits(no int, x leaf) bool {
	prefix := -1
	for place, has := range d.table {
		if has == no {
			prefix = place % (1 << x.depth)
			break
		}
	}
	for place, has := range d.table {
		if (has == no) != (place%(1<<x.depth) == prefix) {
			return false
		}
	}
	for _, e := range x.entries {
		if int(Hash(e.Name))%(1<<x.depth) != prefix {
			return false
		}
	}
	return prefix >= 0
}
