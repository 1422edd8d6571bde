package vdev

import (
	"undercroft/api"
	"undercroft/ptr"
)

// down tells whether the power of a disk that has not failed is out.
func (t *Tank) down() bool {
	for _, l := range t.leaves {
		if l.Failed() {
			continue
		}
		if _, e := l.Read(0, 0); e == api.ErrDown {
			return true
		}
	}
	return false
}

// Mark writes an uberblock onto all leaves that lack nothing.
func (t *Tank) Mark(u api.Uber) api.Errno {
	if e := ptr.CheckUber(u); e != api.OK {
		return e
	}
	if u.Pool != t.pool {
		return api.ErrArg
	}
	taken := make([]bool, len(t.members))
	for i, m := range t.members {
		for place, s := range m.spots {
			if _, lacks := m.Lacks(place); lacks || s.leaf == nil {
				continue
			}
			switch s.leaf.Mark(u) {
			case api.OK:
				taken[i] = true
			case api.ErrDown:
				return api.ErrDown
			}
		}
	}
	for _, ok := range taken {
		if !ok {
			return api.ErrIO
		}
	}
	return api.OK
}

// out tells whether the power of any disk is out: failed disks say so, too.
func (t *Tank) out() bool {
	for _, m := range t.members {
		for _, s := range m.spots {
			if s.disk == nil {
				continue
			}
			if _, e := s.disk.Read(0, 0); e == api.ErrDown { // asked past the leaf, which would count a fault
				return true
			}
		}
	}
	return false
}

// Best is the uberblock of the last group that stands on any leaf.
func (t *Tank) Best() (api.Uber, api.Errno) {
	if t.out() { // a leaf would only tell none
		return api.Uber{}, api.ErrDown
	}
	var best api.Uber
	for _, l := range t.leaves {
		if all := l.Ubers(); len(all) > 0 && all[0].Txg > best.Txg {
			best = all[0]
		}
	}
	if best.Txg == 0 {
		return api.Uber{}, api.ErrVdevUber
	}
	return best, api.OK
}

// inLog tells whether so many bytes lie in the log.
func inLog(at, many int) bool {
	return at >= 0 && many >= 0 && many <= api.LogSize && at <= api.LogSize-many
}

// sector is what a log sector says: of the leaf whose number there is the greatest.
func (t *Tank) sector(at int) []byte {
	b := make([]byte, api.LogBytes)
	var best uint64
	for _, l := range t.leaves {
		if no, has, ok := l.LogRead(at); ok && no > best {
			best = no
			copy(b, has)
		}
	}
	return b
}

// LogRead is bytes of the log.
func (t *Tank) LogRead(at, many int) ([]byte, api.Errno) {
	if !inLog(at, many) {
		return nil, api.ErrArg
	}
	if t.down() {
		return nil, api.ErrDown
	}
	b := make([]byte, 0, many)
	for len(b) < many {
		x := at + len(b)
		has := t.sector(x / api.LogBytes)[x%api.LogBytes:]
		b = append(b, has[:min(len(has), many-len(b))]...)
	}
	return b, api.OK
}

// putSector writes a log sector to all leaves.
func (t *Tank) putSector(at int, b []byte) api.Errno {
	all := api.ErrIO
	for _, l := range t.leaves {
		switch l.LogWrite(at, t.log, b) {
		case api.OK:
			all = api.OK
		case api.ErrDown:
			return api.ErrDown
		}
	}
	t.log++
	return all
}

// LogWrite writes bytes of the log.
func (t *Tank) LogWrite(at int, b []byte) api.Errno {
	if !inLog(at, len(b)) {
		return api.ErrArg
	}
	for len(b) > 0 {
		no, from := at/api.LogBytes, at%api.LogBytes
		many := min(len(b), api.LogBytes-from)
		whole, e := t.LogRead(no*api.LogBytes, api.LogBytes)
		if e != api.OK {
			return e
		}
		copy(whole[from:], b[:many])
		if e := t.putSector(no, whole); e != api.OK {
			return e
		}
		at, b = at+many, b[many:]
	}
	return api.OK
}
