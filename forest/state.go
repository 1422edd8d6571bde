package forest

import (
	"slices"

	"undercroft/api"
	"undercroft/words"
)

// copyOf is a dataset in memory of its own.
func copyOf(d api.Dataset) api.Dataset {
	d.Props = append([]api.Prop(nil), d.Props...)
	d.Marks = append([]api.Mark(nil), d.Marks...)
	d.Snaps = append([]api.Snap(nil), d.Snaps...)
	for i := range d.Snaps {
		d.Snaps[i].Cells = words.Copy(d.Snaps[i].Cells)
	}
	d.Cells = words.Copy(d.Cells)
	return d
}

// State is all of it.
func (f *Forest) State() api.Grove {
	g := api.Grove{Room: f.room, Seed: f.seed, Clock: f.clock, Last: f.last}
	for _, name := range f.names() {
		g.Datasets = append(g.Datasets, copyOf(f.sets[name].Dataset))
	}
	return g
}

// Load is the one of a state.
func Load(g api.Grove) (*Forest, api.Errno) {
	f := &Forest{room: g.Room, seed: g.Seed, clock: g.Clock, last: g.Last, sets: map[string]*dataset{}}
	for _, may := range f.asks(g) {
		if !may() {
			return nil, api.ErrForest
		}
	}
	return f, api.OK
}

// asks are the questions that a state must meet, one behind the other; its datasets come into the forest on the way.
func (f *Forest) asks(g api.Grove) []func() bool {
	return []func() bool{
		func() bool { return within(g.Room, 0, api.MaxRoom) && within(g.Seed, 0, api.MaxSeed-1) },
		func() bool { return within(g.Clock, 0, mostClock) && within(g.Last, 0, mostLast) },
		func() bool { return within(len(g.Datasets), 1, api.MaxDatasets) },
		func() bool { return f.tree(g.Datasets) },
		func() bool { return every(g.Datasets, f.plain) },
		func() bool { return every(g.Datasets, f.guids) },
		func() bool {
			for _, d := range g.Datasets {
				f.put(copyOf(d))
			}
			return f.single() && every(g.Datasets, f.rooted)
		},
		func() bool { return f.fits() == api.OK },
	}
}

func within(n, least, most int) bool { return n >= least && n <= most }

// every tells whether all of a list may be.
func every[T any](l []T, may func(T) bool) bool {
	return !slices.ContainsFunc(l, func(x T) bool { return !may(x) })
}

// rising tells whether names rise.
func rising[T any](l []T, name func(T) string) bool {
	for i := 1; i < len(l); i++ {
		if name(l[i-1]) >= name(l[i]) {
			return false
		}
	}
	return true
}

// tree tells whether datasets have names, and each but the first one has a filesystem above it.
func (f *Forest) tree(l []api.Dataset) bool {
	if !words.Part(l[0].Name) || !rising(l, func(d api.Dataset) string { return d.Name }) {
		return false
	}
	kinds := map[string]int{}
	for i, d := range l {
		if !words.Dataset(d.Name) || !isKind(d.Kind) || i > 0 && kinds[above(d.Name)] != api.Filesystem {
			return false
		}
		kinds[d.Name] = d.Kind
	}
	return true
}

// plain tells whether what a dataset says by itself may be.
func (f *Forest) plain(d api.Dataset) bool {
	if !within(d.Quota, 0, api.MaxRoom) || !within(d.Reserve, 0, api.MaxRoom) {
		return false
	}
	if len(d.Props) > api.MaxProps || len(d.Marks) > api.MaxMarks || len(d.Snaps) > api.MaxSnaps {
		return false
	}
	if !rising(d.Props, func(p api.Prop) string { return p.Name }) || !rising(d.Marks, func(m api.Mark) string { return m.Name }) {
		return false
	}
	names := map[string]int{}
	return f.content(d.Cells) &&
		every(d.Props, func(p api.Prop) bool { return words.Part(p.Name) && words.Value(p.Value) }) &&
		every(d.Marks, func(m api.Mark) bool { return words.Part(m.Name) }) &&
		every(d.Snaps, func(s api.Snap) bool {
			names[s.Name]++
			return names[s.Name] == 1 && words.Part(s.Name) && f.content(s.Cells)
		})
}

// content tells whether cells may be one, with births up to now.
func (f *Forest) content(l []api.Cell) bool {
	return words.Content(l) && every(l, func(c api.Cell) bool { return within(c.Birth, 0, f.clock) })
}

// guids tells whether guids and births of snapshots and bookmarks may be.
func (f *Forest) guids(d api.Dataset) bool {
	return every(d.Snaps, func(s api.Snap) bool {
		return within(s.Guid, 1, api.MaxGuid) && !f.yet(s.Guid) && within(s.Birth, 0, f.clock)
	}) && every(d.Marks, func(m api.Mark) bool {
		return within(m.Guid, 1, api.MaxGuid) && within(m.Birth, 0, f.clock)
	})
}

// single tells whether no two snapshots have one guid.
func (f *Forest) single() bool {
	seen := map[int]int{}
	for _, d := range f.sets {
		for _, s := range d.Snaps {
			seen[s.Guid]++
			if seen[s.Guid] > 1 {
				return false
			}
		}
	}
	return true
}

// rooted tells whether who goes from a dataset to its origin's, again and again, comes to an end.
func (f *Forest) rooted(d api.Dataset) bool {
	at := d
	for range f.sets {
		if at.Origin == 0 {
			return true
		}
		x, _ := f.guid(at.Origin)
		if x == nil || x.Name == at.Name || x.Kind != at.Kind {
			return false
		}
		at = x.Dataset
	}
	return false
}
