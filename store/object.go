package store

import (
	"maps"

	"undercroft/api"
	"undercroft/tree"
)

// isObject tells whether a number is one of an object.
func isObject(no int) bool { return no >= 1 && no <= api.MaxObjects }

// one is an object that is asked for, once the store and the number are right.
func (s *Store) one(no int, args bool) (*object, api.Errno) {
	switch {
	case s.broken != api.OK:
		return nil, s.broken
	case !isObject(no) || !args:
		return nil, api.ErrArg
	case s.now[no] == nil:
		return nil, api.ErrObjectNone
	}
	return s.now[no], api.OK
}

// fits tells whether there is room, if an object gets another size.
func (s *Store) fits(no, size int) bool {
	used := s.Used() + tree.Cost(size)
	if o := s.now[no]; o != nil {
		used -= tree.Cost(o.Size)
	}
	return used <= s.room
}

// block is block i of an object, with noughts up to MaxBlock.
func (s *Store) block(o *object, i int) ([]byte, api.Errno) {
	b := make([]byte, api.MaxBlock)
	if t, ok := o.touched[i]; ok {
		copy(b, t)
		return b, api.OK
	}
	if i >= len(o.data) || o.data[i] == (api.Ptr{}) {
		return b, api.OK
	}
	has, e := s.fetch(o.data[i])
	if e != api.OK {
		return nil, s.trouble(e)
	}
	copy(b, has)
	return b, api.OK
}

// Write changes bytes of an object; it is there from then on.
func (s *Store) Write(object, at int, b []byte) api.Errno {
	o, e := s.one(object, at >= 0 && at <= api.MaxObject && len(b) <= api.MaxObject-at)
	if e == api.ErrObjectNone {
		o, e = fresh(), api.OK
	}
	if e != api.OK {
		return e
	}
	size := max(o.Size, at+len(b))
	if !s.fits(object, size) {
		return api.ErrNoSpace
	}
	changed := map[int][]byte{}
	for done := 0; done < len(b); {
		i, from := (at+done)/api.MaxBlock, (at+done)%api.MaxBlock
		block, e := s.under(o, i, from, len(b)-done)
		if e != api.OK {
			return e
		}
		done += copy(block[from:], b[done:])
		changed[i] = block
	}
	maps.Copy(o.touched, changed)
	o.Size = size
	s.now[object] = o
	return api.OK
}

// under is the block that is written over, from a byte on so many: what is wholly covered need not be read.
func (s *Store) under(o *object, i, from, many int) ([]byte, api.Errno) {
	if from == 0 && many >= api.MaxBlock {
		return make([]byte, api.MaxBlock), api.OK
	}
	return s.block(o, i)
}

// fresh is an object without bytes.
func fresh() *object {
	o := object{Slot: api.Slot{Used: true}}
	return o.working()
}

// Truncate gives an object another size.
func (s *Store) Truncate(object, size int) api.Errno {
	o, e := s.one(object, size >= 0 && size <= api.MaxObject)
	if e != api.OK {
		return e
	}
	if !s.fits(object, size) {
		return api.ErrNoSpace
	}
	if size >= o.Size {
		o.Size = size
		return api.OK
	}
	if size%api.MaxBlock != 0 {
		last := size / api.MaxBlock
		b, e := s.block(o, last)
		if e != api.OK {
			return e
		}
		clear(b[size%api.MaxBlock:])
		o.touched[last] = b
	}
	o.cut(size)
	return api.OK
}

// cut gives an object a smaller size.
func (o *object) cut(size int) {
	o.Size = size
	maps.DeleteFunc(o.touched, func(i int, _ []byte) bool { return i >= many(size) })
	o.data = trim(o.data[:min(len(o.data), many(size))])
}

// Fork gives an object what another one has.
func (s *Store) Fork(from, to int) api.Errno {
	o, e := s.one(from, isObject(to))
	if e != api.OK {
		return e
	}
	if from == to {
		return api.OK
	}
	if !s.fits(to, o.Size) {
		return api.ErrNoSpace
	}
	other := *o
	other.touched = maps.Clone(o.touched) // its blocks, and all lists, are never changed in place
	s.now[to] = &other
	return api.OK
}

// Drop takes an object away.
func (s *Store) Drop(object int) api.Errno {
	if _, e := s.one(object, true); e != api.OK {
		return e
	}
	s.now[object] = nil
	return api.OK
}

// Read is bytes of one.
func (s *Store) Read(object, at, many int) ([]byte, api.Errno) {
	o, e := s.one(object, at >= 0 && many >= 0)
	if e != api.OK {
		return nil, e
	}
	if at >= o.Size {
		return nil, api.OK
	}
	many = min(many, o.Size-at)
	out := make([]byte, 0, many)
	for len(out) < many {
		x := at + len(out)
		b, e := s.block(o, x/api.MaxBlock)
		if e != api.OK {
			return nil, e
		}
		b = b[x%api.MaxBlock:]
		out = append(out, b[:min(len(b), many-len(out))]...)
	}
	return out, api.OK
}

// Size is how many bytes one has.
func (s *Store) Size(object int) (int, api.Errno) {
	o, e := s.one(object, true)
	if e != api.OK {
		return 0, e
	}
	return o.Size, api.OK
}

// Since are the bytes of an object that were written behind a group.
func (s *Store) Since(object int, txg uint64) ([]api.Span, api.Errno) {
	o, e := s.one(object, true)
	if e != api.OK {
		return nil, e
	}
	marks := make([]api.Ptr, many(o.Size)) // any that is not zero stands for a block that is asked for
	for i := range marks {
		_, touched := o.touched[i]
		if touched || i < len(o.data) && o.data[i].Birth > txg {
			marks[i].Birth = 1
		}
	}
	return tree.Since(o.Size, marks, 0), api.OK
}
