package space_test

import (
	"bytes"
	"math"
	"math/rand"
	"slices"
	"testing"

	"undercroft/api"
	"undercroft/space"
)

func taken(at, many int) api.Space { return api.Space{Span: api.Span{At: at, Many: many}} }
func let(at, many int) api.Space   { return api.Space{Free: true, Span: api.Span{At: at, Many: many}} }

func TestForm(t *testing.T) {
	b, e := space.Encode([]api.Space{taken(4, 2)})
	want := []byte{1, 0, 0, 4, 0, 0, 0, 0, 0, 2, 0, 0, 0, 0, 0}
	if e != api.OK || !bytes.Equal(b, want) {
		t.Errorf("% x %d", b, e)
	}
	l := []api.Space{taken(0, api.MaxRange), let(api.MaxRange-1, 1), taken(7, 9)}
	b, e = space.Encode(l)
	back, e2 := space.Decode(b)
	if e != api.OK || e2 != api.OK || !slices.Equal(back, l) || b[2+13] != 1 {
		t.Error(e, e2, back)
	}
	for i, c := range []struct {
		l []api.Space
		e api.Errno
	}{{nil, 0}, {make([]api.Space, 4097), api.ErrLong}, {make([]api.Space, 1), api.ErrSpaceForm}, {[]api.Space{taken(1, 1), taken(-1, 1)}, api.ErrSpaceForm}, {[]api.Space{taken(1, api.MaxRange)}, api.ErrSpaceForm}, {[]api.Space{taken(math.MaxInt, math.MaxInt)}, api.ErrSpaceForm}, {slices.Repeat([]api.Space{taken(1, 1)}, 4096), 0}} {
		b, e := space.Encode(c.l)
		if e != c.e || (len(b) == 0) != (e != api.OK) {
			t.Error(i, e)
		}
		if e != api.OK {
			s, e1 := space.Replay(c.l)
			x, e2 := space.Condense(c.l)
			if s != nil || e1 != e || e2 != e || len(x) != 0 {
				t.Error(i, e1, e2)
			}
		} else if back, e := space.Decode(b); e != api.OK || !slices.Equal(back, c.l) {
			t.Error(i, e)
		}
	}
	one := want
	for i, x := range [][]byte{nil, {0}, {1, 0}, {0, 0, 0}, one[:14], append(bytes.Clone(one), 0), append([]byte{1, 0, 2}, one[3:]...), append([]byte{2}, one[1:]...), append(bytes.Clone(one[:9]), make([]byte, 6)...), append(bytes.Clone(one[:3]), 0xff, 0xff, 0xff, 0xff, 0xff, 0xff, 1, 0, 0, 0, 0, 0), append([]byte{1, 0x10}, make([]byte, 4097*13)...), append([]byte{1, 0x10}, bytes.Repeat(one[2:], 4097)...)} {
		if l, e := space.Decode(x); len(l) != 0 || e != api.ErrSpaceForm {
			t.Error(i, e)
		}
	}
	if l, e := space.Decode([]byte{0, 0}); len(l) != 0 || e != api.OK {
		t.Error(e)
	}
}

func TestReplay(t *testing.T) {
	l, e := space.Condense([]api.Space{taken(4, 2), taken(6, 1), let(5, 1)})
	if e != api.OK || !slices.Equal(l, []api.Space{taken(4, 1), taken(6, 1)}) {
		t.Error(l, e)
	}
	for i, l := range [][]api.Space{{let(4, 2)}, {taken(4, 2), taken(5, 1)}, {taken(4, 2), let(3, 2)}} {
		s, e := space.Replay(l)
		x, e2 := space.Condense(l)
		if s != nil || len(x) != 0 || e != api.ErrSpaceLog || e2 != api.ErrSpaceLog {
			t.Error(i, e, e2)
		}
	}
	if s, e := space.Replay(nil); e != api.OK || s.Many() != 0 {
		t.Error(e)
	}
	r := rand.New(rand.NewSource(5))
	var log []api.Space
	var has [30]bool
	for range 2000 {
		at := r.Intn(30)
		if has[at] {
			log = append(log, let(at, 1))
		} else {
			log = append(log, taken(at, 1))
		}
		has[at] = !has[at]
		s, e := space.Replay(log)
		short, e2 := space.Condense(log)
		again, e3 := space.Condense(short)
		if e != api.OK || e2 != api.OK || e3 != api.OK || !slices.Equal(again, short) || len(short) != len(s.All()) {
			t.Fatal(e, e2, e3)
		}
		for i, x := range s.All() {
			if short[i] != (api.Space{Span: x}) {
				t.Fatal(short)
			}
		}
		for i := range has {
			if s.Has(api.Span{At: i, Many: 1}) != has[i] {
				t.Fatal(i)
			}
		}
	}
}
