package ptr_test

import (
	"bytes"
	"math"
	"reflect"
	"testing"

	"undercroft/api"
	"undercroft/code"
	"undercroft/ptr"
	"undercroft/sum"
)

var good = api.Ptr{Top: 1, At: 258, Bytes: 5, Birth: 7, Kind: api.Fletcher4, Sum: api.Sum{A: 9}}

func with(p api.Ptr, f func(*api.Ptr)) api.Ptr {
	f(&p)
	return p
}

func TestPtr(t *testing.T) {
	b, e := ptr.Encode(good)
	want := make([]byte, 64)
	copy(want, "\x01\x01\x05\x00\x02\x01\x00\x00\x07")
	want[16] = 9
	if e != api.OK || !bytes.Equal(b, want) {
		t.Errorf("% x %d", b, e)
	}
	for i, c := range []struct {
		p  api.Ptr
		ok bool
	}{
		{good, true}, {api.Ptr{}, true}, {api.Ptr{Bytes: 1, Birth: 1, Kind: 1}, true},
		{api.Ptr{Top: 3, At: 40959, Bytes: 1024, Birth: 1 << 48, Kind: 2, Sum: api.Sum{A: math.MaxUint64, D: 1}}, true},
		{with(good, func(p *api.Ptr) { p.Top = 4 }), false}, {with(good, func(p *api.Ptr) { p.Top = -1 }), false},
		{with(good, func(p *api.Ptr) { p.At = 40960 }), false}, {with(good, func(p *api.Ptr) { p.At = -1 }), false},
		{with(good, func(p *api.Ptr) { p.Bytes = 0 }), false}, {with(good, func(p *api.Ptr) { p.Bytes = 1025 }), false},
		{with(good, func(p *api.Ptr) { p.Birth = 0 }), false}, {with(good, func(p *api.Ptr) { p.Birth = 1<<48 + 1 }), false},
		{with(good, func(p *api.Ptr) { p.Kind = 0 }), false}, {with(good, func(p *api.Ptr) { p.Kind = 3 }), false},
		{api.Ptr{Sum: api.Sum{D: 1}}, false},
	} {
		b, e := ptr.Encode(c.p)
		if c.ok {
			back, e2 := ptr.Decode(b)
			if ptr.Check(c.p) != api.OK || e != api.OK || e2 != api.OK || back != c.p || len(b) != 64 {
				t.Error(i, e, e2)
			}
		} else if ptr.Check(c.p) != api.ErrPtrState || e != api.ErrPtrState || len(b) != 0 {
			t.Error(i, e)
		}
	}
	for i := range b {
		x := bytes.Clone(b)
		x[i] ^= 0x80
		p, e := ptr.Decode(x)
		switch {
		case bytes.IndexByte([]byte{0, 1, 3, 6, 7, 14, 15}, byte(i)) >= 0:
			if e != api.ErrPtrState || p != (api.Ptr{}) {
				t.Error(i, e)
			}
		case i >= 48:
			if e != api.ErrPtrForm || p != (api.Ptr{}) {
				t.Error(i, e)
			}
		default:
			if y, _ := ptr.Encode(p); e != api.OK || !bytes.Equal(x, y) {
				t.Error(i, e)
			}
		}
	}
	for _, x := range [][]byte{nil, b[:63], append(bytes.Clone(b), 0)} {
		if p, e := ptr.Decode(x); e != api.ErrPtrForm || p != (api.Ptr{}) {
			t.Error(len(x), e)
		}
	}
	if p, e := ptr.Decode(make([]byte, 64)); e != api.OK || p != (api.Ptr{}) {
		t.Error(e)
	}
}

func label(top, place int, tops ...api.Top) api.Label {
	return api.Label{Pool: 1<<63 + 5, Tops: tops, Top: top, Place: place}
}

func TestLabel(t *testing.T) {
	m2 := api.Top{Kind: api.Mirror, Leaves: 2, Sectors: 324}
	p5 := api.Top{Kind: api.Parity, Leaves: 5, Sectors: 8192}
	s1 := api.Top{Kind: api.Single, Leaves: 1, Sectors: 400}
	for i, c := range []struct {
		l  api.Label
		ok bool
	}{
		{label(0, 1, m2), true}, {label(0, 2, m2), false}, {label(0, -1, m2), false}, {label(1, 0, m2), false}, {label(-1, 0, m2), false},
		{label(0, 4, api.Top{Kind: 2, Leaves: 5, Sectors: 324}), true}, {label(0, 2, api.Top{Kind: 3, Leaves: 3, Sectors: 324}), true}, {label(0, 0, api.Top{Kind: 3, Leaves: 6, Sectors: 324}), false},
		{label(0, 0), false}, {label(3, 4, s1, m2, m2, p5), true}, {label(0, 0, s1, s1, s1, s1, s1), false}, {label(0, 0, s1, p5), true},
		{label(0, 0, api.Top{Kind: 1, Leaves: 2, Sectors: 324}), false}, {label(0, 0, api.Top{Kind: 2, Leaves: 1, Sectors: 324}), false}, {label(0, 0, api.Top{Kind: 2, Leaves: 6, Sectors: 324}), false},
		{label(0, 0, api.Top{Kind: 3, Leaves: 2, Sectors: 324}), false}, {label(0, 0, api.Top{Kind: 3, Leaves: 3, Sectors: 323}), false}, {label(0, 0, api.Top{Kind: 3, Leaves: 3, Sectors: 8193}), false},
		{label(0, 0, api.Top{Kind: 4, Leaves: 3, Sectors: 324}), false}, {label(0, 0, s1, api.Top{}), false},
	} {
		b, e := ptr.EncodeLabel(c.l)
		if c.ok {
			back, e2 := ptr.DecodeLabel(b)
			if ptr.CheckLabel(c.l) != api.OK || e != api.OK || e2 != api.OK || !reflect.DeepEqual(back, c.l) || len(b) != 128 {
				t.Error(i, e, e2)
			}
		} else if ptr.CheckLabel(c.l) != api.ErrLabelState || e != api.ErrLabelState || len(b) != 0 {
			t.Error(i, e)
		}
	}
	b, _ := ptr.EncodeLabel(label(0, 1, m2))
	if !bytes.HasPrefix(b, []byte("UCLB\x05\x00\x00\x00\x00\x00\x00\x80\x00\x01\x01\x02\x02\x44\x01\x00\x00\x00")) {
		t.Errorf("% x", b)
	}
	broken(t, b, api.ErrLabelForm, func(b []byte) api.Errno { _, e := ptr.DecodeLabel(b); return e })
	for _, c := range []struct {
		at int
		x  byte
		e  api.Errno
	}{{0, 'V', api.ErrLabelForm}, {13, 2, api.ErrLabelState}, {12, 1, api.ErrLabelState}, {14, 5, api.ErrLabelForm}, {14, 4, api.ErrLabelState}, {14, 0, api.ErrLabelForm}, {95, 1, api.ErrLabelForm}, {15, 9, api.ErrLabelState}} {
		if l, e := ptr.DecodeLabel(resealed(b, c.at, c.x)); e != c.e || !reflect.DeepEqual(l, api.Label{}) {
			t.Error(c, e)
		}
	}
}

// resealed is a form with one byte altered, and the sum that goes with it.
func resealed(b []byte, at int, x byte) []byte {
	b = bytes.Clone(b[:96])
	b[at] = x
	s, _ := sum.Of(api.Fletcher4, b)
	w := code.NewWriter(128)
	w.Bytes(b)
	for _, n := range []uint64{s.A, s.B, s.C, s.D} {
		w.Num(n, 8)
	}
	b, _ = w.Done()
	return b
}

// broken turns each byte about, and cuts the form.
func broken(t *testing.T, b []byte, want api.Errno, decode func([]byte) api.Errno) {
	t.Helper()
	for i := range b {
		x := bytes.Clone(b)
		x[i]++
		if e := decode(x); e != want {
			t.Error("byte", i, e)
		}
	}
	for _, x := range [][]byte{nil, b[:127], append(bytes.Clone(b), 0), b[:96]} {
		if e := decode(x); e != want {
			t.Error("bytes", len(x), e)
		}
	}
}

func TestUber(t *testing.T) {
	u := api.Uber{Pool: math.MaxUint64, Txg: 7, Note: 1 << 60, Root: good}
	b, e := ptr.EncodeUber(u)
	if e != api.OK || len(b) != 128 || !bytes.HasPrefix(b, []byte("UCUB\xff\xff\xff\xff\xff\xff\xff\xff\x07\x00\x00\x00\x00\x00\x00\x00\x00\x00\x00\x00\x00\x00\x00\x10\x01\x01\x05")) {
		t.Errorf("% x %d", b, e)
	}
	for i, c := range []struct {
		txg  uint64
		root api.Ptr
		ok   bool
	}{{7, good, true}, {6, good, false}, {1, api.Ptr{}, true}, {0, api.Ptr{}, false}, {1 << 48, good, true}, {1<<48 + 1, good, false}, {9, api.Ptr{Top: 1}, false}} {
		u := api.Uber{Txg: c.txg, Root: c.root}
		b, e := ptr.EncodeUber(u)
		if c.ok {
			back, e2 := ptr.DecodeUber(b)
			if ptr.CheckUber(u) != api.OK || e != api.OK || e2 != api.OK || back != u {
				t.Error(i, e, e2)
			}
		} else if ptr.CheckUber(u) != api.ErrUberState || e != api.ErrUberState || len(b) != 0 {
			t.Error(i, e)
		}
	}
	broken(t, b, api.ErrUberForm, func(b []byte) api.Errno { _, e := ptr.DecodeUber(b); return e })
	for _, c := range []struct {
		at int
		x  byte
		e  api.Errno
	}{{3, 'A', api.ErrUberForm}, {12, 6, api.ErrUberState}, {12, 0, api.ErrUberState}, {28, 4, api.ErrUberState}, {28 + 63, 1, api.ErrUberForm}, {95, 1, api.ErrUberForm}} {
		if u, e := ptr.DecodeUber(resealed(b, c.at, c.x)); e != c.e || u != (api.Uber{}) {
			t.Error(c, e)
		}
	}
}
