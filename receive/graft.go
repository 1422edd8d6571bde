package receive

import (
	"cmp"
	"slices"

	"undercroft/api"
	"undercroft/forest"
)

// graft is what was taken as parts of a forest; false, if one of them has no cells.
func (r *Receiver) graft(f *forest.Forest) ([]api.Part, bool) {
	snaps := map[int][]api.Cell{} // by guids: the forest's, and those of the parts ahead
	for _, d := range f.State().Datasets {
		for _, s := range d.Snaps {
			snaps[s.Guid] = s.Cells
		}
	}
	var parts []api.Part
	for l := r.records; len(l) > 0; {
		end := 1 + slices.IndexFunc(l, func(x api.Record) bool { return x.Kind == api.RecEnd })
		if end == 0 {
			break
		}
		begin := slices.IndexFunc(l, func(x api.Record) bool { return x.Kind == api.RecBegin })
		p, ok := r.piece(l[begin:end], snaps)
		if !ok {
			return nil, false
		}
		snaps[p.Guid] = p.Cells
		parts = append(parts, p)
		l = l[end:]
	}
	return parts, true
}

// piece is the part that records are, from RecBegin to RecEnd.
func (r *Receiver) piece(l []api.Record, snaps map[int][]api.Cell) (api.Part, bool) {
	b := l[0]
	p := api.Part{Name: r.to + b.Name, Kind: b.Type, New: b.From == 0 || b.Origin == 1, Snap: b.Snap, Guid: b.Guid, Props: b.Props}
	if b.Origin == 1 {
		p.Origin = b.From
	}
	if !p.New {
		p.Base = b.From
	}
	base, ok := snaps[b.From]
	if b.From != 0 && !ok {
		return p, false
	}
	p.Cells, ok = lay(base, l[1].Keep, l[2:])
	return p, ok
}

// place is where a cell is.
type place struct {
	object, at int
}

// lay is cells with what records say laid on: less objects and places that are no more, with what is written.
func lay(base []api.Cell, live []int, l []api.Record) ([]api.Cell, bool) {
	nodes := map[int][]int{}
	cells := map[place]api.Cell{}
	for _, x := range l {
		if x.Kind == api.RecNode {
			nodes[x.Object] = x.Keep
		}
	}
	for _, c := range base {
		keep, told := nodes[c.Object]
		if slices.Contains(live, c.Object) && (!told || slices.Contains(keep, c.At)) {
			cells[place{c.Object, c.At}] = c
		}
	}
	for _, x := range l {
		if x.Kind == api.RecWrite {
			cells[place{x.Object, x.At}] = api.Cell{Object: x.Object, At: x.At, Data: x.Data}
		}
	}
	has := map[int]int{}
	var out []api.Cell
	for _, c := range cells {
		has[c.Object]++
		out = append(out, c)
	}
	slices.SortFunc(out, func(x, y api.Cell) int {
		return cmp.Or(cmp.Compare(x.Object, y.Object), cmp.Compare(x.At, y.At))
	})
	for _, object := range live {
		if has[object] == 0 || len(nodes[object]) > 0 && has[object] != len(nodes[object]) {
			return nil, false
		}
	}
	return out, true
}
