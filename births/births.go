// Package births keeps which groups the leaf at each place of a top lacks.
package births

import "undercroft/api"

// List has one entry a place; a zero one lacks nothing.
type List struct {
	lacks []api.Births
}

// New is one of so many places, none of which lacks anything.
func New(places int) *List { return &List{lacks: make([]api.Births, places)} }

// Has tells whether there is such a place.
func (l *List) Has(place int) bool { return place >= 0 && place < len(l.lacks) }

// Lacks are the groups that a place lacks; false: none, or no such place.
func (l *List) Lacks(place int) (api.Births, bool) {
	if !l.Has(place) || l.lacks[place] == (api.Births{}) {
		return api.Births{}, false
	}
	return l.lacks[place], true
}

// Behind says that a place lacks some groups more.
func (l *List) Behind(place int, b api.Births) api.Errno {
	if !l.Has(place) || b.From < 1 || b.From > b.To || b.To > api.MaxTxg {
		return api.ErrArg
	}
	if old, ok := l.Lacks(place); ok {
		b.From = min(b.From, old.From)
		b.To = max(b.To, old.To)
	}
	l.lacks[place] = b
	return api.OK
}

// Miss says that a place lacks one group.
func (l *List) Miss(place int, txg uint64) {
	l.Behind(place, api.Births{From: txg, To: txg})
}

// Whole says that a place lacks nothing.
func (l *List) Whole(place int) api.Errno {
	if !l.Has(place) {
		return api.ErrArg
	}
	l.lacks[place] = api.Births{}
	return api.OK
}
