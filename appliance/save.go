package appliance

import (
	"undercroft/api"
	"undercroft/code"
	"undercroft/forest"
	"undercroft/frame"
	"undercroft/receive"
)

const (
	letters  = "UCAP"
	mostSave = api.MaxObjects * api.MaxObject
	mostItem = 1 << 21 // bytes of a reply's frame, or of a take
)

// saved machine: all that a checkpoint lays down.
func save(m api.Machine) ([]byte, api.Errno) {
	w := code.NewWriter(mostSave)
	w.Bytes([]byte(letters))
	w.Num(uint64(m.Logged), 8)
	putGrove(w, m.Grove)
	w.Num(uint64(len(m.Replies)), 1)
	for _, r := range m.Replies {
		b, _ := frame.Reply(r)
		putItem(w, b)
	}
	w.Num(uint64(len(m.Takes)), 1)
	for _, t := range m.Takes {
		putItem(w, t.Saved)
	}
	return w.Done()
}

func putItem(w *code.Writer, b []byte) {
	w.Num(uint64(len(b)), 4)
	w.Bytes(b)
}

func putGrove(w *code.Writer, g api.Grove) {
	w.Num(uint64(g.Room), 6)
	w.Num(uint64(g.Seed), 3)
	w.Num(uint64(g.Clock), 6)
	w.Num(uint64(g.Last), 3)
	w.Num(uint64(len(g.Datasets)), 1)
	for _, d := range g.Datasets {
		putDataset(w, d)
	}
}

func putDataset(w *code.Writer, d api.Dataset) {
	w.Text(d.Name)
	w.Num(uint64(d.Kind), 1)
	w.Num(uint64(d.Origin), 6)
	w.Num(uint64(d.Quota), 6)
	w.Num(uint64(d.Reserve), 6)
	w.Num(uint64(len(d.Props)), 1)
	for _, p := range d.Props {
		w.Text(p.Name)
		w.Text(p.Value)
	}
	w.Num(uint64(len(d.Marks)), 1)
	for _, x := range d.Marks {
		w.Text(x.Name)
		w.Num(uint64(x.Guid), 6)
		w.Num(uint64(x.Birth), 6)
	}
	w.Num(uint64(len(d.Snaps)), 1)
	for _, s := range d.Snaps {
		w.Text(s.Name)
		w.Num(uint64(s.Guid), 6)
		w.Num(uint64(s.Birth), 6)
		putCells(w, s.Cells)
	}
	putCells(w, d.Cells)
}

func putCells(w *code.Writer, l []api.Cell) {
	w.Num(uint64(len(l)), 2)
	for _, c := range l {
		w.Num(uint64(c.Object), 3)
		w.Num(uint64(c.At+1), 2)
		w.Num(uint64(c.Birth), 6)
		w.Num(uint64(len(c.Data)), 2)
		w.Bytes(c.Data)
	}
}

// taker takes up what was saved.
type taker struct {
	*code.Reader
}

func (t taker) int(bytes int) int { return int(t.Num(bytes)) }

// many takes up how many things follow: no more than bytes are left.
func (t taker) many(bytes int) int { return min(t.int(bytes), t.Left()) }

func (t taker) item() []byte { return t.Bytes(min(t.int(4), mostItem)) }

func (t taker) grove() api.Grove {
	g := api.Grove{Room: t.int(6), Seed: t.int(3), Clock: t.int(6), Last: t.int(3)}
	for range t.many(1) {
		g.Datasets = append(g.Datasets, t.dataset())
	}
	return g
}

func (t taker) dataset() api.Dataset {
	d := api.Dataset{Name: t.Text(api.MaxText), Kind: t.int(1), Origin: t.int(6), Quota: t.int(6), Reserve: t.int(6)}
	for range t.many(1) {
		d.Props = append(d.Props, api.Prop{Name: t.Text(api.MaxText), Value: t.Text(api.MaxText)})
	}
	for range t.many(1) {
		d.Marks = append(d.Marks, api.Mark{Name: t.Text(api.MaxText), Guid: t.int(6), Birth: t.int(6)})
	}
	for range t.many(1) {
		d.Snaps = append(d.Snaps, api.Snap{Name: t.Text(api.MaxText), Guid: t.int(6), Birth: t.int(6), Cells: t.cells()})
	}
	d.Cells = t.cells()
	return d
}

func (t taker) cells() []api.Cell {
	var l []api.Cell
	for range t.many(2) {
		l = append(l, api.Cell{Object: t.int(3), At: t.int(2) - 1, Birth: t.int(6), Data: t.Bytes(t.int(2))})
	}
	return l
}

// load is what was saved: the machine's forest and takes, its replies, and how many requests were logged; false, if it is none.
func load(b []byte, most int) (*machine, []api.Reply, int, bool) {
	t := taker{code.NewReader(b)}
	if string(t.Bytes(len(letters))) != letters {
		return nil, nil, 0, false
	}
	logged := t.int(8)
	f, e := forest.Load(t.grove())
	if e != api.OK {
		return nil, nil, 0, false
	}
	var replies []api.Reply
	for range t.many(1) {
		r, e := frame.ReadReply(t.item())
		if e != api.OK {
			return nil, nil, 0, false
		}
		replies = append(replies, r)
	}
	takes := map[string]*receive.Receiver{}
	for range t.many(1) {
		b := t.item()
		x, e := receive.Load(b)
		if e != api.OK {
			return nil, nil, 0, false
		}
		takes[code.NewReader(b).Text(api.MaxText)] = x
	}
	if t.Done() != api.OK {
		return nil, nil, 0, false
	}
	return newMachine(f, takes, most), replies, logged, true
}
