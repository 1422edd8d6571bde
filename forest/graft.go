package forest

import (
	"slices"

	"undercroft/api"
	"undercroft/words"
)

// Graft lays parts of a stream on, all or none.
func (f *Forest) Graft(parts []api.Part) api.Errno {
	if len(parts) == 0 {
		return api.ErrArg
	}
	return f.change(func(n *Forest) api.Errno {
		n.clock-- // it is one more with each part
		for _, p := range parts {
			n.clock++
			if e := n.graft(p); e != api.OK {
				return e
			}
		}
		return api.OK
	})
}

// mayGraft tells whether a part may be, by itself.
func (f *Forest) mayGraft(p api.Part) api.Errno {
	if !words.Dataset(p.Name) || !words.Part(p.Snap) || !every(p.Props, func(x api.Prop) bool { return words.Part(x.Name) }) {
		return api.ErrName
	}
	if !isKind(p.Kind) || !words.Content(p.Cells) || !within(p.Guid, 1, api.MaxGuid) || f.yet(p.Guid) || !every(p.Props, func(x api.Prop) bool { return words.Value(x.Value) }) {
		return api.ErrArg
	}
	if d, _ := f.guid(p.Guid); d != nil {
		return api.ErrExists
	}
	return api.OK
}

// graft lays one part on.
func (f *Forest) graft(p api.Part) api.Errno {
	if e := f.mayGraft(p); e != api.OK {
		return e
	}
	e := api.OK
	if p.New {
		e = f.sprout(p)
	} else {
		e = f.matches(p)
	}
	if e != api.OK {
		return e
	}
	d := f.edit(p.Name)
	if len(d.Snaps) >= api.MaxSnaps {
		return api.ErrMany
	}
	if d.snap(p.Snap) >= 0 {
		return api.ErrExists
	}
	d.Cells = born(p.Cells, d.Cells, f.clock)
	for _, x := range p.Props {
		if e := d.set(x); e != api.OK {
			return e
		}
	}
	d.Snaps = append(d.Snaps, api.Snap{Name: p.Snap, Guid: p.Guid, Birth: f.clock, Cells: d.Cells})
	return api.OK
}

// sprout makes the dataset of a part.
func (f *Forest) sprout(p api.Part) api.Errno {
	if e := f.toMake(p.Name); e != api.OK {
		return e
	}
	d := api.Dataset{Name: p.Name, Kind: p.Kind, Origin: p.Origin}
	if p.Origin != 0 {
		x, i := f.guid(p.Origin)
		if x == nil {
			return api.ErrNone
		}
		if x.Kind != p.Kind {
			return api.ErrKind
		}
		d.Cells = x.Snaps[i].Cells
	}
	f.put(d)
	return api.OK
}

// matches tells whether the dataset of a part stands at the part's base.
func (f *Forest) matches(p api.Part) api.Errno {
	d := f.sets[p.Name]
	if d == nil {
		return api.ErrNone
	}
	if d.Kind != p.Kind {
		return api.ErrKind
	}
	n := len(d.Snaps)
	if n == 0 || d.Snaps[n-1].Guid != p.Base || !slices.EqualFunc(d.Cells, d.Snaps[n-1].Cells, func(x, y api.Cell) bool { return same(x) == same(y) }) {
		return api.ErrMatch
	}
	return api.OK
}
