package receive

import (
	"slices"

	"undercroft/api"
)

// part is what has come of a part that has not ended.
type part struct {
	records int
	all     bool         // each object must come, with all its cells
	live    []int        // the objects that there are
	nodes   int          // how many of them came
	node    api.Record   // the last one that came
	writes  []api.Record // of that one
	short   bool         // one that came had not all its cells
}

// first: a stream begins with its package.
func (r *Receiver) first(x api.Record) bool {
	if x.Kind != api.RecPackage {
		return false
	}
	r.many = x.Many
	r.next = r.between
	return true
}

// between: a part begins, as long as there are to be more; else the stream ends.
func (r *Receiver) between(x api.Record) bool {
	if r.parts == r.many {
		r.next = r.nothing
		if x.Kind == api.RecDone && x.Many == len(r.records)+1 {
			return true
		}
		r.next = r.between
		return false
	}
	if x.Kind != api.RecBegin {
		return false
	}
	r.parts++
	r.part = part{records: 1, all: x.From == 0}
	r.next = r.begun
	return true
}

// nothing comes behind the end.
func (r *Receiver) nothing(api.Record) bool { return false }

// begun: the objects that there are come first.
func (r *Receiver) begun(x api.Record) bool {
	if x.Kind != api.RecLive {
		return false
	}
	r.part.records++
	r.part.live = x.Keep
	r.next = r.inside
	return true
}

// inside: objects and cells come, and the part's end.
func (r *Receiver) inside(x api.Record) bool {
	p := &r.part
	ok := false
	switch x.Kind {
	case api.RecNode:
		ok = p.isNode(x)
	case api.RecWrite:
		ok = p.isWrite(x)
	case api.RecEnd:
		ok = p.isEnd(x)
		if ok {
			r.next = r.between
		}
	}
	if ok {
		p.records++
	}
	return ok
}

// isNode takes an object: one that there is, behind the last one.
func (p *part) isNode(x api.Record) bool {
	if !slices.Contains(p.live, x.Object) || p.nodes > 0 && x.Object <= p.node.Object {
		return false
	}
	p.short = p.short || p.lacks()
	p.nodes++
	p.node, p.writes = x, nil
	return true
}

// lacks tells whether the last object has a place of which no cell came.
func (p *part) lacks() bool { return len(p.writes) < len(p.node.Keep) }

// isWrite takes a cell of the last object.
func (p *part) isWrite(x api.Record) bool {
	n := len(p.writes)
	if p.nodes == 0 || x.Object != p.node.Object || !slices.Contains(p.node.Keep, x.At) || n > 0 && x.At <= p.writes[n-1].At {
		return false
	}
	p.writes = append(p.writes, x)
	return true
}

// isEnd tells whether the part may end so.
func (p *part) isEnd(x api.Record) bool {
	if x.Many != p.records+1 {
		return false
	}
	return !p.all || p.nodes == len(p.live) && !p.short && !p.lacks()
}
