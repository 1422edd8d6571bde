package ptr

import (
	"undercroft/api"
	"undercroft/code"
)

const labelLetters = "UCLB"

// mayBe tells whether a top may be.
func mayBe(t api.Top) bool {
	if t.Sectors < api.MinSectors || t.Sectors > api.MaxSectors {
		return false
	}
	switch t.Kind {
	case api.Single:
		return t == (api.Top{Kind: api.Single, Leaves: 1, Sectors: t.Sectors})
	case api.Mirror:
		return t.Leaves >= 2 && t.Leaves <= api.MaxLeaves
	case api.Parity:
		return t.Leaves >= 3 && t.Leaves <= api.MaxLeaves
	}
	return false
}

// CheckLabel tells whether a label may be.
func CheckLabel(l api.Label) api.Errno {
	n := len(l.Tops)
	if n < 1 || n > api.MaxTops || l.Top < 0 || l.Top >= n {
		return api.ErrLabelState
	}
	for _, t := range l.Tops {
		if !mayBe(t) {
			return api.ErrLabelState
		}
	}
	if l.Place < 0 || l.Place >= l.Tops[l.Top].Leaves {
		return api.ErrLabelState
	}
	return api.OK
}

func putLabel(w *code.Writer, l api.Label) {
	w.Bytes([]byte(labelLetters))
	w.Num(l.Pool, 8)
	w.Num(uint64(l.Top), 1)
	w.Num(uint64(l.Place), 1)
	w.Num(uint64(len(l.Tops)), 1)
	for _, t := range l.Tops {
		w.Num(uint64(t.Kind), 1)
		w.Num(uint64(t.Leaves), 1)
		w.Num(uint64(t.Sectors), 4)
	}
}

func getLabel(r *code.Reader) (api.Label, bool) {
	var l api.Label
	letters := string(r.Bytes(len(labelLetters)))
	l.Pool = r.Num(8)
	l.Top = int(r.Num(1))
	l.Place = int(r.Num(1))
	many := int(r.Num(1))
	if letters != labelLetters || many > api.MaxTops {
		return api.Label{}, false
	}
	for range many {
		var t api.Top
		t.Kind = int(r.Num(1))
		t.Leaves = int(r.Num(1))
		t.Sectors = int(r.Num(4))
		l.Tops = append(l.Tops, t)
	}
	return l, true
}

// EncodeLabel is a label as bytes.
func EncodeLabel(l api.Label) ([]byte, api.Errno) {
	return seal(lay(l, CheckLabel, putLabel, bodyLen))
}

// DecodeLabel reads them.
func DecodeLabel(b []byte) (api.Label, api.Errno) {
	body, ok := open(b)
	if !ok {
		return api.Label{}, api.ErrLabelForm
	}
	return take(body, bodyLen, getLabel, api.ErrLabelForm, CheckLabel)
}
