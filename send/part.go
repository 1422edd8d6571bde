package send

import "undercroft/api"

// objects are the cells of a content, object by object.
func objects(l []api.Cell) [][]api.Cell {
	var out [][]api.Cell
	for at := 0; at < len(l); {
		end := at
		for end < len(l) && l[end].Object == l[at].Object {
			end++
		}
		out = append(out, l[at:end])
		at = end
	}
	return out
}

// changed tells of a cell whether it has changed.
func (p *part) changed() func(c api.Cell) bool {
	if !p.from.there {
		return func(api.Cell) bool { return true }
	}
	return func(c api.Cell) bool { return c.Birth > p.from.birth }
}

// touched tells of an object's cells whether the object has changed.
func (p *part) touched() func(cells []api.Cell) bool {
	type place struct{ object, at int }
	ahead := map[int]int{} // how many cells each object had
	was := map[place]int{}
	for _, c := range p.from.cells {
		ahead[c.Object]++
		was[place{c.Object, c.At}]++
	}
	changed := p.changed()
	return func(cells []api.Cell) bool {
		if !p.from.known {
			return true
		}
		kept := 0
		for _, c := range cells {
			if changed(c) {
				return true
			}
			kept += was[place{c.Object, c.At}]
		}
		return kept < ahead[cells[0].Object]
	}
}

// records are those of a part; name is the dataset that is sent.
func (p *part) records(name string) []api.Record {
	begin := api.Record{Kind: api.RecBegin, Name: p.set.Name[len(name):], Type: p.set.Kind, From: p.from.guid, Guid: p.snap.Guid, Snap: p.snap.Name}
	begin.Props = append(begin.Props, p.set.Props...)
	if p.of {
		begin.Origin = 1
	}
	live := api.Record{Kind: api.RecLive}
	all := objects(p.snap.Cells)
	for _, cells := range all {
		live.Keep = append(live.Keep, cells[0].Object)
	}
	l := []api.Record{begin, live}
	touched, changed := p.touched(), p.changed()
	for _, cells := range all {
		if !touched(cells) {
			continue
		}
		node := api.Record{Kind: api.RecNode, Object: cells[0].Object}
		var writes []api.Record
		for _, c := range cells {
			node.Keep = append(node.Keep, c.At)
			if changed(c) {
				writes = append(writes, api.Record{Kind: api.RecWrite, Object: c.Object, At: c.At, Data: append([]byte(nil), c.Data...)})
			}
		}
		l = append(append(l, node), writes...)
	}
	return append(l, api.Record{Kind: api.RecEnd, Many: len(l) + 1})
}
