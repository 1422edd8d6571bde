package forest

import (
	"slices"
	"strings"

	"undercroft/api"
	"undercroft/words"
)

// first is the first guid of those that this forest gives, less one.
func (f *Forest) first() int { return f.seed * api.MaxSeed }

// yet tells whether a guid is one that this forest has yet to give.
func (f *Forest) yet(guid int) bool {
	return guid > f.first()+f.last && guid <= f.first()+mostLast
}

// Snapshot keeps a content, of all datasets below, too, if deep.
func (f *Forest) Snapshot(name, snap string, deep bool) api.Errno {
	if !f.has(name) {
		return api.ErrNone
	}
	if !words.Part(snap) {
		return api.ErrName
	}
	family := []string{name}
	if deep {
		family = f.family(name)
	}
	return f.change(func(n *Forest) api.Errno {
		for _, x := range family {
			d := n.edit(x)
			if d.snap(snap) >= 0 {
				return api.ErrExists
			}
			if len(d.Snaps) >= api.MaxSnaps || n.last >= mostLast {
				return api.ErrMany
			}
			n.last++
			d.Snaps = append(d.Snaps, api.Snap{Name: snap, Guid: n.first() + n.last, Birth: n.clock, Cells: d.Cells})
		}
		return api.OK
	})
}

// Release takes a snapshot away.
func (f *Forest) Release(name, snap string) api.Errno {
	d, i, ok := f.find(name, snap)
	if !ok {
		return api.ErrNone
	}
	for _, x := range f.sets {
		if x.Origin == d.Snaps[i].Guid {
			return api.ErrBusy
		}
	}
	return f.change(func(n *Forest) api.Errno {
		d := n.edit(name)
		d.Snaps = slices.Delete(d.Snaps, i, i+1)
		return api.OK
	})
}

// Rollback leads back to the last snapshot.
func (f *Forest) Rollback(name, snap string) api.Errno {
	d, i, ok := f.find(name, snap)
	if !ok {
		return api.ErrNone
	}
	if i < len(d.Snaps)-1 {
		return api.ErrLater
	}
	return f.change(func(n *Forest) api.Errno {
		n.edit(name).Cells = d.Snaps[i].Cells
		return api.OK
	})
}

// mark is where a bookmark of that name stands, or would stand; is there one?
func (d *dataset) mark(name string) (int, bool) {
	return slices.BinarySearchFunc(d.Marks, name, func(m api.Mark, name string) int { return strings.Compare(m.Name, name) })
}

// Bookmark marks a snapshot.
func (f *Forest) Bookmark(name, snap, mark string) api.Errno {
	d, i, ok := f.find(name, snap)
	if !ok {
		return api.ErrNone
	}
	if !words.Part(mark) {
		return api.ErrName
	}
	at, there := d.mark(mark)
	if there {
		return api.ErrExists
	}
	if len(d.Marks) >= api.MaxMarks {
		return api.ErrMany
	}
	s := d.Snaps[i]
	return f.change(func(n *Forest) api.Errno {
		x := n.edit(name)
		x.Marks = slices.Insert(x.Marks, at, api.Mark{Name: mark, Guid: s.Guid, Birth: s.Birth})
		return api.OK
	})
}

// Forget takes a bookmark away.
func (f *Forest) Forget(name, mark string) api.Errno {
	if !f.has(name) {
		return api.ErrNone
	}
	at, there := f.sets[name].mark(mark)
	if !there {
		return api.ErrNone
	}
	return f.change(func(n *Forest) api.Errno {
		x := n.edit(name)
		x.Marks = slices.Delete(x.Marks, at, at+1)
		return api.OK
	})
}

// prop is where a property stands, or would stand; is it set?
func (d *dataset) prop(name string) (int, bool) {
	return slices.BinarySearchFunc(d.Props, name, func(p api.Prop, name string) int { return strings.Compare(p.Name, name) })
}

// set sets a property at a dataset that may be changed.
func (d *dataset) set(p api.Prop) api.Errno {
	at, there := d.prop(p.Name)
	switch {
	case there:
		d.Props[at] = p
	case len(d.Props) >= api.MaxProps:
		return api.ErrMany
	default:
		d.Props = slices.Insert(d.Props, at, p)
	}
	return api.OK
}

// Set sets a property, or (an empty value) lets it be inherited.
func (f *Forest) Set(name, prop, value string) api.Errno {
	switch {
	case !f.has(name):
		return api.ErrNone
	case !words.Part(prop):
		return api.ErrName
	case len(value) > api.MaxValue:
		return api.ErrLong
	case !words.Printed(value):
		return api.ErrArg
	}
	at, there := f.sets[name].prop(prop)
	if value == "" && !there {
		return api.ErrNone
	}
	return f.change(func(n *Forest) api.Errno {
		d := n.edit(name)
		if value != "" {
			return d.set(api.Prop{Name: prop, Value: value})
		}
		d.Props = slices.Delete(d.Props, at, at+1)
		return api.OK
	})
}

// Get is a property, and the dataset at which it was set.
func (f *Forest) Get(name, prop string) (string, string, api.Errno) {
	if f.has(name) {
		for x := name; x != ""; x = above(x) {
			d := f.sets[x]
			if at, there := d.prop(prop); there {
				return d.Props[at].Value, x, api.OK
			}
		}
	}
	return "", "", api.ErrNone
}
