package forest

import (
	"slices"

	"undercroft/api"
	"undercroft/words"
)

// cell is what makes two cells one.
type cell struct {
	object, at, birth int
}

func same(c api.Cell) cell { return cell{c.Object, c.At, c.Birth} }

// room is that of cells.
func room(l []api.Cell) int {
	n := 0
	for _, c := range l {
		n += api.CellRoom + len(c.Data)
	}
	return n
}

// less are the cells that are none of others, in order.
func less(l, others []api.Cell) []api.Cell {
	gone := make(map[cell]int, len(others))
	for _, c := range others {
		gone[same(c)]++
	}
	var out []api.Cell
	for _, c := range l {
		if gone[same(c)] == 0 {
			out = append(out, c)
		}
	}
	return out
}

// origin are the cells of a dataset's origin.
func (f *Forest) origin(d *dataset) []api.Cell {
	if d.Origin == 0 {
		return nil
	}
	x, i := f.guid(d.Origin)
	if x == nil {
		return nil
	}
	return x.Snaps[i].Cells
}

// contents are the cells of a dataset's snapshots, in order, and of its head.
func (d *dataset) contents() [][]api.Cell {
	var l [][]api.Cell
	for _, s := range d.Snaps {
		l = append(l, s.Cells)
	}
	return append(l, d.Cells)
}

// measure finds out what a dataset takes, once: its contents and its origin's stay as they are.
func (f *Forest) measure(d *dataset) {
	if d.known {
		return
	}
	seen := map[cell]int{}
	for _, c := range f.origin(d) {
		seen[same(c)]++
	}
	d.own, d.whole, d.known = 0, 0, true
	for _, l := range d.contents() {
		d.whole += room(l)
		for _, c := range l {
			if seen[same(c)] == 0 {
				d.own += api.CellRoom + len(c.Data)
			}
			seen[same(c)]++
		}
	}
}

// all is the ALL of each dataset.
func (f *Forest) all() map[string]int {
	all := make(map[string]int, len(f.sets))
	names := f.names()
	slices.Reverse(names) // who is below comes ahead
	for _, name := range names {
		d := f.sets[name]
		f.measure(d)
		all[name] += d.own
		if up := above(name); up != "" {
			all[up] += max(all[name], d.Reserve)
		}
	}
	return all
}

// fits is why the forest may not be so, for its room; or OK.
func (f *Forest) fits() api.Errno {
	all := f.all()
	contents, whole := 0, 0
	for name, d := range f.sets {
		if d.Quota != 0 && all[name] > d.Quota {
			return api.ErrQuota
		}
		contents += 1 + len(d.Snaps)
		whole += d.whole
	}
	if all[f.names()[0]] > f.room || whole > 4*f.room {
		return api.ErrNoSpace
	}
	if contents > api.MaxContents {
		return api.ErrMany
	}
	return api.OK
}

// Used is the room of a dataset alone, and with all below it.
func (f *Forest) Used(name string) (int, int, api.Errno) {
	if !f.has(name) {
		return 0, 0, api.ErrNone
	}
	all := f.all()
	return f.sets[name].own, all[name], api.OK
}

// behind are the cells of what comes behind a snapshot.
func (d *dataset) behind(i int) []api.Cell { return d.contents()[i+1] }

// Dead are the cells that a snapshot has and what comes behind it has not.
func (f *Forest) Dead(name, snap string) ([]api.Cell, api.Errno) {
	d, i, ok := f.find(name, snap)
	if !ok {
		return nil, api.ErrNone
	}
	return words.Copy(less(d.Snaps[i].Cells, d.behind(i))), api.OK
}

// Unique is the room that only a snapshot takes.
func (f *Forest) Unique(name, snap string) (int, api.Errno) {
	d, i, ok := f.find(name, snap)
	if !ok {
		return 0, api.ErrNone
	}
	ahead := f.origin(d)
	if i > 0 {
		ahead = d.Snaps[i-1].Cells
	}
	return room(less(less(d.Snaps[i].Cells, d.behind(i)), ahead)), api.OK
}
