package store

import (
	"undercroft/api"
	"undercroft/tree"
	"undercroft/vdev"
)

const tableLen = api.MaxObjects * api.SlotLen

// Open is the one that stands in a pool.
func Open(t *vdev.Tank) (*Store, api.Errno) {
	u, e := t.Best()
	if e != api.OK {
		return nil, e
	}
	s, _ := made(t)
	s.txg, s.note = u.Txg, u.Note
	if e := s.loadAll(u.Root); e != api.OK {
		return nil, e
	}
	if s.begin() != api.OK {
		return nil, api.ErrTreeForm
	}
	if e := settle(t, u); e != api.OK {
		return nil, e
	}
	return s, api.OK
}

// settle writes what the last group hangs on once more, so that all leaves have it.
func settle(t *vdev.Tank, u api.Uber) api.Errno {
	log, e := t.LogRead(0, api.LogSize)
	if e != api.OK {
		return e
	}
	if e := t.LogWrite(0, log); e != api.OK {
		return e
	}
	if e := t.Mark(u); e != api.OK {
		return e
	}
	return t.Flush()
}

// fetch is a block that belongs to the store.
func (s *Store) fetch(p api.Ptr) ([]byte, api.Errno) {
	b, e := s.tank.Read(p)
	if e != api.OK && e != api.ErrDown {
		e = api.ErrIO
	}
	return b, e
}

// pointers are those of the pointer block that a pointer leads to: at most so many.
func (s *Store) pointers(p api.Ptr, most int) ([]api.Ptr, api.Errno) {
	if p == (api.Ptr{}) {
		return nil, api.OK
	}
	b, e := s.fetch(p)
	if e != api.OK {
		return nil, e
	}
	l, e := tree.Unpack(b)
	if e == api.OK && len(trim(l)) > most {
		e = api.ErrTreeForm
	}
	return trim(l), e
}

// trim is pointers without the zero ones at their end.
func trim(l []api.Ptr) []api.Ptr {
	for len(l) > 0 && l[len(l)-1] == (api.Ptr{}) {
		l = l[:len(l)-1]
	}
	return l
}

// many is how many blocks so many bytes have.
func many(size int) int { return (size + api.MaxBlock - 1) / api.MaxBlock }

// length is how many bytes block i has.
func length(size, i int) int { return min(api.MaxBlock, size-i*api.MaxBlock) }

// loadAll finds all objects, from the uberblock's pointer on.
func (s *Store) loadAll(root api.Ptr) api.Errno {
	table := object{Slot: api.Slot{Used: true, Size: tableLen, Root: root}}
	l, e := s.pointers(root, many(tableLen))
	if e != api.OK {
		return e
	}
	table.laid = l
	b := make([]byte, tableLen)
	for i, p := range l {
		if p == (api.Ptr{}) {
			continue
		}
		block, e := s.fetch(p)
		if e != api.OK {
			return e
		}
		if len(block) != length(tableLen, i) {
			return api.ErrTreeForm
		}
		copy(b[i*api.MaxBlock:], block)
	}
	s.hold(0, table)
	slots, e := tree.Slots(b)
	if e != api.OK {
		return e
	}
	for i, slot := range slots {
		if !slot.Used {
			continue
		}
		o, e := s.load(slot)
		if e != api.OK {
			return e
		}
		s.hold(i+1, o)
		s.now[i+1] = o.working()
	}
	return api.OK
}

// load is the object of a slot; all its blocks are read.
func (s *Store) load(slot api.Slot) (object, api.Errno) {
	o := object{Slot: slot}
	mids, e := s.pointers(slot.Root, api.Fan)
	if e != api.OK {
		return o, e
	}
	o.mids = mids
	for i, mid := range mids {
		l, e := s.pointers(mid, api.Fan)
		if e != api.OK {
			return o, e
		}
		if len(l) > 0 {
			o.laid = append(o.laid, make([]api.Ptr, i*api.Fan-len(o.laid))...)
			o.laid = append(o.laid, l...)
		}
	}
	if len(o.laid) > many(slot.Size) {
		return o, api.ErrTreeForm
	}
	for i, p := range o.laid {
		if p == (api.Ptr{}) {
			continue
		}
		if p.Bytes > length(slot.Size, i) {
			return o, api.ErrTreeForm
		}
		if s.refs[spot{p.Top, p.At}] > 0 { // a fork's, which was read already
			continue
		}
		if _, e := s.fetch(p); e != api.OK {
			return o, e
		}
	}
	return o, api.OK
}

// working is an object as it goes on from what was committed.
func (o *object) working() *object {
	w := *o
	w.data = append([]api.Ptr{}, o.laid...)
	w.touched = map[int][]byte{}
	return &w
}

// hold makes an object the one that was committed: what it was ahead.
func (s *Store) hold(no int, o object) object {
	old := s.kept[no]
	o.data, o.touched = nil, nil
	s.kept[no] = o
	for _, p := range o.blocks() {
		s.refs[spot{p.Top, p.At}]++
	}
	return old
}

// release says that an object that was committed is not any more: the spots on which no other one has a block.
func (s *Store) release(old object) []spot {
	var gone []spot
	for _, p := range old.blocks() {
		at := spot{p.Top, p.At}
		s.refs[at]--
		if s.refs[at] == 0 {
			delete(s.refs, at)
			gone = append(gone, at)
		}
	}
	return gone
}
