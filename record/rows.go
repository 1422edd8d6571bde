package record

import (
	"bytes"
	"slices"
	"strings"

	"undercroft/api"
	"undercroft/code"
	"undercroft/words"
)

const mostMany = 1 << 20

// row is what there is to know of a kind.
type row struct {
	may  func(r api.Record) bool                // may its fields be?
	only func(r api.Record) api.Record          // a record with these fields alone
	put  func(w *code.Writer, r api.Record)     // lays its body down
	take func(r *code.Reader) (body api.Record) // takes it up
}

// rows are the kinds.
func rows() map[int]row {
	count := row{mayCount, onlyCount, putCount, takeCount}
	return map[int]row{
		api.RecPackage: {mayPackage, onlyPackage, putPackage, takePackage},
		api.RecBegin:   {mayBegin, onlyBegin, putBegin, takeBegin},
		api.RecLive:    {mayLive, onlyLive, putLive, takeLive},
		api.RecNode:    {mayNode, onlyNode, putNode, takeNode},
		api.RecWrite:   {mayWrite, onlyWrite, putWrite, takeWrite},
		api.RecEnd:     count,
		api.RecDone:    count,
	}
}

// same tells whether two records are the same.
func same(x, y api.Record) bool {
	return x.Kind == y.Kind && x.Name == y.Name && x.Type == y.Type && x.From == y.From && x.Guid == y.Guid &&
		x.Origin == y.Origin && x.Snap == y.Snap && slices.Equal(x.Props, y.Props) && x.Object == y.Object &&
		x.At == y.At && x.Many == y.Many && slices.Equal(x.Keep, y.Keep) && bytes.Equal(x.Data, y.Data)
}

func within(n, least, most int) bool { return n >= least && n <= most }

// rise tells whether numbers rise, from least to most.
func rise(l []int, least, most int) bool {
	for i, n := range l {
		if !within(n, least, most) || i > 0 && l[i-1] >= n {
			return false
		}
	}
	return true
}

func mayPackage(r api.Record) bool {
	return words.Part(r.Name) && within(r.Many, 1, api.MaxContents)
}

func onlyPackage(r api.Record) api.Record {
	return api.Record{Kind: r.Kind, Name: r.Name, Many: r.Many}
}

func putPackage(w *code.Writer, r api.Record) {
	w.Text(r.Name)
	w.Num(uint64(r.Many), 2)
}

func takePackage(r *code.Reader) (x api.Record) {
	x.Name = r.Text(api.MaxText)
	x.Many = int(r.Num(2))
	return x
}

func mayBegin(r api.Record) bool {
	if r.Name != "" && (!strings.HasPrefix(r.Name, "/") || !words.Parts(r.Name[1:], api.MaxDepth-1)) {
		return false
	}
	for i, p := range r.Props {
		if !words.Part(p.Name) || !words.Value(p.Value) || i > 0 && r.Props[i-1].Name >= p.Name {
			return false
		}
	}
	return (r.Type == api.Filesystem || r.Type == api.Volume) &&
		within(r.From, 0, api.MaxGuid) && within(r.Guid, 1, api.MaxGuid) &&
		(r.Origin == 0 || r.Origin == 1 && r.From != 0) &&
		words.Part(r.Snap) && len(r.Props) <= api.MaxProps
}

func onlyBegin(r api.Record) api.Record {
	return api.Record{Kind: r.Kind, Name: r.Name, Type: r.Type, From: r.From, Guid: r.Guid, Origin: r.Origin, Snap: r.Snap, Props: r.Props}
}

func putBegin(w *code.Writer, r api.Record) {
	w.Text(r.Name)
	w.Num(uint64(r.Type), 1)
	w.Num(uint64(r.From), 6)
	w.Num(uint64(r.Guid), 6)
	w.Num(uint64(r.Origin), 1)
	w.Text(r.Snap)
	w.Num(uint64(len(r.Props)), 1)
	for _, p := range r.Props {
		w.Text(p.Name)
		w.Text(p.Value)
	}
}

func takeBegin(r *code.Reader) (x api.Record) {
	x.Name = r.Text(api.MaxText)
	x.Type = int(r.Num(1))
	x.From = int(r.Num(6))
	x.Guid = int(r.Num(6))
	x.Origin = int(r.Num(1))
	x.Snap = r.Text(api.MaxText)
	for range int(r.Num(1)) {
		var p api.Prop
		p.Name = r.Text(api.MaxText)
		p.Value = r.Text(api.MaxText)
		x.Props = append(x.Props, p)
	}
	return x
}

func mayLive(r api.Record) bool {
	return len(r.Keep) <= api.MaxCells && rise(r.Keep, 1, api.MaxObjectNo)
}

func onlyLive(r api.Record) api.Record { return api.Record{Kind: r.Kind, Keep: r.Keep} }

// putKeep lays numbers down, each more by so many than it is.
func putKeep(w *code.Writer, l []int, more, bytes int) {
	w.Num(uint64(len(l)), 2)
	for _, n := range l {
		w.Num(uint64(n+more), bytes)
	}
}

func takeKeep(r *code.Reader, more, bytes int) []int {
	var l []int
	for range min(int(r.Num(2)), r.Left()/bytes+1) { // no more than can be there
		l = append(l, int(r.Num(bytes))-more)
	}
	return l
}

func putLive(w *code.Writer, r api.Record) { putKeep(w, r.Keep, 0, 4) }

func takeLive(r *code.Reader) (x api.Record) {
	x.Keep = takeKeep(r, 0, 4)
	return x
}

func mayNode(r api.Record) bool {
	return within(r.Object, 1, api.MaxObjectNo) && within(len(r.Keep), 1, api.MaxCells) && rise(r.Keep, -1, api.MaxAt)
}

func onlyNode(r api.Record) api.Record {
	return api.Record{Kind: r.Kind, Object: r.Object, Keep: r.Keep}
}

func putNode(w *code.Writer, r api.Record) {
	w.Num(uint64(r.Object), 4)
	putKeep(w, r.Keep, 1, 2)
}

func takeNode(r *code.Reader) (x api.Record) {
	x.Object = int(r.Num(4))
	x.Keep = takeKeep(r, 1, 2)
	return x
}

func mayWrite(r api.Record) bool {
	return within(r.Object, 1, api.MaxObjectNo) && within(r.At, -1, api.MaxAt) && within(len(r.Data), 1, api.Chunk)
}

func onlyWrite(r api.Record) api.Record {
	return api.Record{Kind: r.Kind, Object: r.Object, At: r.At, Data: r.Data}
}

func putWrite(w *code.Writer, r api.Record) {
	w.Num(uint64(r.Object), 4)
	w.Num(uint64(r.At+1), 2)
	w.Num(uint64(len(r.Data)), 2)
	w.Bytes(r.Data)
}

func takeWrite(r *code.Reader) (x api.Record) {
	x.Object = int(r.Num(4))
	x.At = int(r.Num(2)) - 1
	x.Data = r.Bytes(int(r.Num(2)))
	return x
}

func mayCount(r api.Record) bool { return within(r.Many, 1, mostMany) }

func onlyCount(r api.Record) api.Record { return api.Record{Kind: r.Kind, Many: r.Many} }

func putCount(w *code.Writer, r api.Record) { w.Num(uint64(r.Many), 4) }

func takeCount(r *code.Reader) (x api.Record) {
	x.Many = int(r.Num(4))
	return x
}
