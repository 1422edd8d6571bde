package appliance

import (
	"undercroft/api"
	"undercroft/posix"
	"undercroft/volume"
)

func (m *machine) create(r api.Request) api.Reply {
	if r.Many == 0 {
		return only(m.forest.Create(r.Name, api.Filesystem, posix.New().Cells()))
	}
	v, e := volume.New(r.Many)
	if e != api.OK {
		return only(e)
	}
	return only(m.forest.Create(r.Name, api.Volume, v.Cells()))
}

func (m *machine) destroy(r api.Request) api.Reply { return only(m.forest.Destroy(r.Name)) }

func (m *machine) rename(r api.Request) api.Reply { return only(m.forest.Rename(r.Name, r.Other)) }

func (m *machine) snapshot(r api.Request) api.Reply {
	return only(m.forest.Snapshot(r.Name, r.Item, r.Many != 0))
}

func (m *machine) release(r api.Request) api.Reply { return only(m.forest.Release(r.Name, r.Item)) }

func (m *machine) rollback(r api.Request) api.Reply { return only(m.forest.Rollback(r.Name, r.Item)) }

func (m *machine) clone(r api.Request) api.Reply {
	return only(m.forest.Clone(r.Name, r.Item, r.Other))
}

func (m *machine) promote(r api.Request) api.Reply { return only(m.forest.Promote(r.Name)) }

func (m *machine) bookmark(r api.Request) api.Reply {
	return only(m.forest.Bookmark(r.Name, r.Item, r.Other))
}

func (m *machine) forget(r api.Request) api.Reply { return only(m.forest.Forget(r.Name, r.Item)) }

func (m *machine) set(r api.Request) api.Reply { return only(m.forest.Set(r.Name, r.Item, r.Other)) }

func (m *machine) quota(r api.Request) api.Reply { return only(m.forest.Quota(r.Name, r.Many)) }

func (m *machine) reserve(r api.Request) api.Reply { return only(m.forest.Reserve(r.Name, r.Many)) }

// commit lays a stream that was received on.
func (m *machine) commit(r api.Request) api.Reply {
	t := m.takes[r.Name]
	if t == nil {
		return only(api.ErrToken)
	}
	e := t.Commit(m.forest)
	if e == api.OK {
		delete(m.takes, r.Name)
	}
	return only(e)
}

// drop throws a stream that was received away.
func (m *machine) drop(r api.Request) api.Reply {
	if m.takes[r.Name] == nil {
		return only(api.ErrToken)
	}
	delete(m.takes, r.Name)
	return only(api.OK)
}
