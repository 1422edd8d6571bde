package appliance

import (
	"undercroft/api"
	"undercroft/posix"
	"undercroft/receive"
	"undercroft/volume"
)

// content is that of a dataset of a kind, or of a snapshot of it.
func (m *machine) content(name, snap string, kind int) ([]api.Cell, api.Errno) {
	cells, e := m.forest.Content(name, snap)
	if e == api.OK && m.dataset(name).Kind != kind {
		e = api.ErrKind
	}
	return cells, e
}

// files is the filesystem that a dataset, or a snapshot of it, is.
func (m *machine) files(name, snap string) (*posix.Tree, api.Errno) {
	cells, e := m.content(name, snap, api.Filesystem)
	if e != api.OK {
		return nil, e
	}
	return posix.Open(cells)
}

// volume is the one that a dataset, or a snapshot of it, is.
func (m *machine) volume(name, snap string) (*volume.Volume, api.Errno) {
	cells, e := m.content(name, snap, api.Volume)
	if e != api.OK {
		return nil, e
	}
	return volume.Open(cells)
}

// inFiles changes a filesystem.
func (m *machine) inFiles(r api.Request, do func(t *posix.Tree) api.Errno) api.Reply {
	t, e := m.files(r.Name, "")
	if e == api.OK {
		e = do(t)
	}
	if e == api.OK {
		e = m.forest.Change(r.Name, t.Cells())
	}
	return only(e)
}

// inVolume changes a volume.
func (m *machine) inVolume(r api.Request, do func(v *volume.Volume) api.Errno) api.Reply {
	v, e := m.volume(r.Name, "")
	if e == api.OK {
		e = do(v)
	}
	if e == api.OK {
		e = m.forest.Change(r.Name, v.Cells())
	}
	return only(e)
}

func (m *machine) mkdir(r api.Request) api.Reply {
	return m.inFiles(r, func(t *posix.Tree) api.Errno { return t.Mkdir(r.Path, r.Many) })
}

func (m *machine) makeFile(r api.Request) api.Reply {
	return m.inFiles(r, func(t *posix.Tree) api.Errno { return t.Create(r.Path, r.Many) })
}

func (m *machine) write(r api.Request) api.Reply {
	return m.inFiles(r, func(t *posix.Tree) api.Errno { return t.Write(r.Path, r.At, r.Data) })
}

func (m *machine) truncate(r api.Request) api.Reply {
	return m.inFiles(r, func(t *posix.Tree) api.Errno { return t.Truncate(r.Path, r.Many) })
}

func (m *machine) link(r api.Request) api.Reply {
	return m.inFiles(r, func(t *posix.Tree) api.Errno { return t.Link(r.Path, r.Other) })
}

func (m *machine) move(r api.Request) api.Reply {
	return m.inFiles(r, func(t *posix.Tree) api.Errno { return t.Rename(r.Path, r.Other) })
}

func (m *machine) remove(r api.Request) api.Reply {
	return m.inFiles(r, func(t *posix.Tree) api.Errno { return t.Remove(r.Path) })
}

func (m *machine) chmod(r api.Request) api.Reply {
	return m.inFiles(r, func(t *posix.Tree) api.Errno { return t.Chmod(r.Path, r.Many) })
}

func (m *machine) volWrite(r api.Request) api.Reply {
	return m.inVolume(r, func(v *volume.Volume) api.Errno { return v.Write(r.At, r.Data) })
}

func (m *machine) discard(r api.Request) api.Reply {
	return m.inVolume(r, func(v *volume.Volume) api.Errno { return v.Discard(r.At, r.Many) })
}

// take begins to receive a stream.
func (m *machine) take(r api.Request) api.Reply {
	t, e := receive.New(r.Name)
	switch {
	case e != api.OK:
		return only(e)
	case m.takes[r.Name] != nil:
		return only(api.ErrExists)
	case len(m.takes) >= api.MaxTakes:
		return only(api.ErrMany)
	}
	m.takes[r.Name] = t
	return only(api.OK)
}

// feed takes a piece of a stream: whole records alone.
func (m *machine) feed(r api.Request) api.Reply {
	t := m.takes[r.Name]
	if t == nil {
		return only(api.ErrToken)
	}
	before := t.Token().Bytes
	e := t.Feed(r.Data)
	if e == api.OK && t.Token().Bytes-before < len(r.Data) { // something waits
		t, _ = receive.Load(t.Save())
		m.takes[r.Name] = t
	}
	return api.Reply{Err: e, Number: t.Token().Bytes}
}
