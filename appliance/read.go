package appliance

import (
	"strconv"

	"undercroft/api"
	"undercroft/code"
	"undercroft/send"
	"undercroft/sum"
)

// num is a number as text.
func num(n int) string { return strconv.Itoa(n) }

func (m *machine) sync(api.Request) api.Reply { return only(api.OK) }

func (m *machine) get(r api.Request) api.Reply {
	value, name, e := m.forest.Get(r.Name, r.Item)
	if e != api.OK {
		return only(e)
	}
	return api.Reply{Text: value, List: []string{name}}
}

func (m *machine) used(r api.Request) api.Reply {
	own, all, e := m.forest.Used(r.Name)
	if e != api.OK {
		return only(e)
	}
	return api.Reply{Number: own, List: []string{num(all)}}
}

func (m *machine) datasets(api.Request) api.Reply {
	return api.Reply{List: names(m.grove)}
}

// names are those of all datasets.
func names(g api.Grove) []string {
	var l []string
	for _, d := range g.Datasets {
		l = append(l, d.Name)
	}
	return l
}

func (m *machine) snaps(r api.Request) api.Reply {
	d := m.dataset(r.Name)
	if d == nil {
		return only(api.ErrNone)
	}
	var l []string
	for _, s := range d.Snaps {
		l = append(l, s.Name+" "+num(s.Guid)+" "+num(s.Birth))
	}
	return api.Reply{List: l}
}

func (m *machine) read(r api.Request) api.Reply {
	t, e := m.files(r.Name, r.Item)
	if e != api.OK {
		return only(e)
	}
	b, e := t.Read(r.Path, r.At, min(r.Many, api.MaxData))
	return api.Reply{Err: e, Data: b}
}

func (m *machine) list(r api.Request) api.Reply {
	t, e := m.files(r.Name, r.Item)
	if e != api.OK {
		return only(e)
	}
	entries, e := t.List(r.Path)
	if e == api.OK && len(entries) > api.MaxItems {
		e = api.ErrLong
	}
	if e != api.OK {
		return only(e)
	}
	var l []string
	for _, x := range entries {
		l = append(l, x.Name+" "+num(x.Value))
	}
	return api.Reply{List: l}
}

func (m *machine) stat(r api.Request) api.Reply {
	t, e := m.files(r.Name, r.Item)
	if e != api.OK {
		return only(e)
	}
	s, e := t.Stat(r.Path)
	if e != api.OK {
		return only(e)
	}
	return api.Reply{Number: s.Size, List: []string{num(s.Node), num(s.Kind), num(s.Mode), num(s.Links)}}
}

func (m *machine) volRead(r api.Request) api.Reply {
	v, e := m.volume(r.Name, r.Item)
	if e == api.OK && r.Many > api.MaxData {
		e = api.ErrLong
	}
	if e != api.OK {
		return only(e)
	}
	b, e := v.Read(r.At, r.Many)
	return api.Reply{Err: e, Data: b}
}

// recordLen is how many bytes the record has with which a stream's rest begins.
func recordLen(b []byte) int {
	const kindLen, sealLen = 1, 32
	r := code.NewReader(b[kindLen : kindLen+4])
	return kindLen + 4 + int(r.Num(4)) + sealLen
}

// whole is how many bytes whole records have, from the beginning on, that are at most so many.
func whole(stream []byte, most int) int {
	at := 0
	for at < len(stream) {
		n := recordLen(stream[at:])
		if at+n > most {
			break
		}
		at += n
	}
	return at
}

func (m *machine) send(r api.Request) api.Reply {
	stream, e := send.Stream(m.forest, r.Name, r.Item, r.Other, r.Many != 0)
	if e == api.OK && (r.At > len(stream) || whole(stream, r.At) != r.At) {
		e = api.ErrToken
	}
	if e != api.OK {
		return only(e)
	}
	rest := stream[r.At:]
	return api.Reply{Number: len(stream), Data: append([]byte(nil), rest[:whole(rest, api.MaxData)]...)}
}

func (m *machine) token(r api.Request) api.Reply {
	t := m.takes[r.Name]
	if t == nil {
		return only(api.ErrToken)
	}
	end := "open"
	if t.Whole() {
		end = "whole"
	}
	is := t.Token()
	return api.Reply{Number: is.Bytes, List: []string{num(is.Records), num(is.Guid), sum.Print(is.Sum), end}}
}
