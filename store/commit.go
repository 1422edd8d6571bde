package store

import (
	"bytes"
	"slices"

	"undercroft/api"
	"undercroft/tree"
)

// put writes a block into the next group.
func (s *Store) put(b []byte) (api.Ptr, api.Errno) {
	p, e := s.alloc.Take(s.need)
	if e != api.OK {
		return api.Ptr{}, e
	}
	return s.tank.Write(p.Top, p.Span.At, b, api.Fletcher4, s.txg+1)
}

// lay writes blocks: the pointer of each, a zero one of an empty one.
func lay(blocks [][]byte, write func([]byte) (api.Ptr, api.Errno)) ([]api.Ptr, api.Errno) {
	l := make([]api.Ptr, len(blocks))
	for i, b := range blocks {
		if len(b) == 0 {
			continue
		}
		p, e := write(b)
		if e != api.OK {
			return nil, e
		}
		l[i] = p
	}
	return l, api.OK
}

// pack writes pointers: those of their blocks.
func (s *Store) pack(l []api.Ptr) ([]api.Ptr, api.Errno) {
	blocks, e := tree.Pack(l)
	if e != api.OK {
		return nil, e
	}
	return lay(blocks, s.put)
}

// top writes pointers of at most one block: that block's.
func (s *Store) top(l []api.Ptr) (api.Ptr, api.Errno) {
	roots, e := s.pack(trim(l))
	if e != api.OK || len(roots) == 0 {
		return api.Ptr{}, e
	}
	return roots[0], api.OK
}

// renew writes those blocks that have changed: the pointers of all of them.
func (s *Store) renew(data []api.Ptr, blocks [][]byte, changed []bool) ([]api.Ptr, api.Errno) {
	only := make([][]byte, len(blocks))
	for i, b := range blocks {
		if changed[i] && !tree.Blank(b) {
			only[i] = b
		}
	}
	fresh, e := lay(only, s.put)
	if e != api.OK {
		return nil, e
	}
	out := make([]api.Ptr, len(blocks))
	copy(out, data)
	for i := range out {
		if changed[i] {
			out[i] = fresh[i]
		}
	}
	return trim(out), api.OK
}

// layObject writes what was touched of an object: the object as it is committed then.
func (s *Store) layObject(o *object) (object, api.Errno) {
	blocks := make([][]byte, many(o.Size))
	changed := make([]bool, len(blocks))
	for i, b := range o.touched {
		blocks[i], changed[i] = b[:length(o.Size, i)], true
	}
	data, e := s.renew(o.data, blocks, changed)
	if e != api.OK {
		return object{}, e
	}
	done := object{Slot: o.Slot, laid: o.laid, mids: o.mids}
	if slices.Equal(data, o.laid) {
		return done, api.OK
	}
	done.laid = data
	if done.mids, e = s.pack(data); e != api.OK {
		return object{}, e
	}
	done.Root, e = s.top(done.mids)
	return done, e
}

// table is the table of objects as bytes.
func table(l []object) ([]byte, api.Errno) {
	var slots []api.Slot
	for i := range l {
		slots = append(slots, l[i].Slot)
	}
	return tree.Table(slots)
}

// layTable writes what is another one of the table of objects: the table as it is committed then.
func (s *Store) layTable(objects []object) (object, api.Errno) {
	old := s.kept[0]
	was, e := table(s.kept[1:])
	if e != api.OK {
		return object{}, e
	}
	is, e := table(objects[1:])
	if e != api.OK || bytes.Equal(was, is) {
		return old, e
	}
	blocks, before := tree.Split(is), tree.Split(was)
	changed := make([]bool, len(blocks))
	for i := range blocks {
		changed[i] = !bytes.Equal(blocks[i], before[i])
	}
	data, e := s.renew(old.laid, blocks, changed)
	if e != api.OK {
		return object{}, e
	}
	done := object{Slot: api.Slot{Used: true, Size: tableLen}, laid: data}
	done.Root, e = s.top(done.laid)
	return done, e
}

// Commit makes all that was done stay, at once.
func (s *Store) Commit(note uint64) api.Errno {
	if s.broken != api.OK {
		return s.broken
	}
	if s.txg >= api.MaxTxg {
		return api.ErrUberState
	}
	objects := make([]object, len(s.kept))
	for i, o := range s.now {
		if o == nil {
			continue
		}
		done, e := s.layObject(o)
		if e != api.OK {
			s.broken = e
			return e
		}
		objects[i] = done
	}
	top, e := s.layTable(objects)
	if e == api.OK {
		objects[0] = top
		e = s.mark(api.Uber{Pool: s.tank.Pool(), Txg: s.txg + 1, Note: note, Root: top.Root})
	}
	if e != api.OK {
		s.broken = e
		return e
	}
	s.settled(objects, note)
	return api.OK
}

// mark makes all blocks stay, and then the uberblock that leads to them.
func (s *Store) mark(u api.Uber) api.Errno {
	if e := s.tank.Flush(); e != api.OK {
		return e
	}
	if e := s.tank.Mark(u); e != api.OK {
		return e
	}
	return s.tank.Flush()
}

// settled makes the next group the last one: what only the one ahead had waits until nothing leads to it.
func (s *Store) settled(objects []object, note uint64) {
	s.txg++
	s.note = note
	old := make([]object, len(objects))
	for i, o := range objects {
		old[i] = s.hold(i, o)
		if s.now[i] != nil {
			s.now[i] = s.kept[i].working()
		}
	}
	for _, o := range old { // only behind all: a fork may go on with what another one has let go
		for _, at := range s.release(o) {
			s.alloc.Free(s.place(at), s.txg)
		}
	}
	s.alloc.Sync(s.txg)
}
