package leaf_test

import (
	"bytes"
	"math"
	"reflect"
	"slices"
	"testing"

	"undercroft/api"
	"undercroft/disk"
	"undercroft/leaf"
	"undercroft/ptr"
)

func fresh(t *testing.T, sectors int) (*disk.Power, *disk.Disk, api.Label, *leaf.Leaf) {
	t.Helper()
	p := disk.NewPower()
	d, _ := disk.New(p, sectors)
	l := api.Label{Pool: 5, Tops: []api.Top{{Kind: api.Single, Leaves: 1, Sectors: sectors}}}
	x, e := leaf.Format(d, l)
	if e != api.OK {
		t.Fatal(e)
	}
	return p, d, l, x
}

func is(t *testing.T, got, want api.Errno) {
	t.Helper()
	if got != want {
		t.Errorf("%d, not %d", got, want)
	}
}

func s(l ...byte) []byte {
	var b []byte
	for _, x := range l {
		b = append(b, bytes.Repeat([]byte{x}, api.Sector)...)
	}
	return b
}

func TestFormat(t *testing.T) {
	p := disk.NewPower()
	d, _ := disk.New(p, 400)
	d.Write(0, bytes.Repeat([]byte{7}, 400*128))
	l := api.Label{Pool: 5, Tops: []api.Top{{Kind: 1, Leaves: 1, Sectors: 324}, {Kind: 2, Leaves: 2, Sectors: 400}}, Top: 1, Place: 1}
	bad := l
	bad.Place = 2
	if x, e := leaf.Format(d, bad); x != nil || e != api.ErrLabelState {
		t.Error(e)
	}
	bad.Top, bad.Place = 0, 0
	if x, e := leaf.Format(d, bad); x != nil || e != api.ErrArg {
		t.Error(e)
	}
	before := p.Writes()
	x, e := leaf.Format(d, l)
	is(t, e, api.OK)
	if p.Writes()-before != 274+18+4 || p.Waiting() != 0 || x.Size() != 108 {
		t.Error(p.Writes()-before, x.Size())
	}
	form, _ := ptr.EncodeLabel(l)
	for _, c := range []struct {
		at   int
		want []byte
	}{{0, form}, {9, form}, {382, form}, {391, form}, {1, s(0)}, {273, s(0)}, {274, s(7)}, {381, s(7)}, {383, s(0)}, {399, s(0)}} {
		if b, _ := d.Read(c.at, 1); !bytes.Equal(b, c.want) {
			t.Errorf("%d: % x", c.at, b[:8])
		}
	}
	l.Tops[0].Sectors = 999
	x.Label().Tops[1].Kind = 9
	if got := x.Label(); got.Tops[0].Sectors != 324 || got.Tops[1].Kind != 2 || x.Faults() != (api.Faults{}) {
		t.Error(got)
	}
	d.Fail()
	l.Tops[0].Sectors = 324
	if x, e := leaf.Format(d, l); x != nil || e != api.ErrDiskFailed {
		t.Error(e)
	}
	for cut := range 296 {
		d.Replace()
		p.Cut(cut)
		if x, e := leaf.Format(d, l); x != nil || e != api.ErrDown {
			t.Fatal(cut, e)
		}
		p.Up(nil)
	}
}

func TestOpen(t *testing.T) {
	p, d, l, _ := fresh(t, 324)
	x, e := leaf.Open(d)
	if e != api.OK || !reflect.DeepEqual(x.Label(), l) || x.Size() != 32 {
		t.Error(e)
	}
	other := l
	other.Pool = 6
	form, _ := ptr.EncodeLabel(other)
	for i, at := range []int{0, 9, 306, 315} {
		d.Write(at, s(1))
		x, e := leaf.Open(d)
		if i < 3 && (e != api.OK || x.Label().Pool != 5) || i == 3 && (x != nil || e != api.ErrLeafLabel) {
			t.Error(i, e)
		}
	}
	d.Write(306, form)
	if x, e := leaf.Open(d); e != api.OK || x.Label().Pool != 6 {
		t.Error(e)
	}
	wrong := l
	wrong.Tops = []api.Top{{Kind: 1, Leaves: 1, Sectors: 325}}
	form, _ = ptr.EncodeLabel(wrong)
	d.Write(0, form)
	if x, e := leaf.Open(d); e != api.OK || x.Label().Pool != 6 {
		t.Error(e)
	}
	small, _ := disk.New(p, 323)
	if x, e := leaf.Open(small); x != nil || e != api.ErrLeafLabel {
		t.Error(e)
	}
	tiny, _ := disk.New(p, 5)
	if x, e := leaf.Open(tiny); x != nil || e != api.ErrLeafLabel {
		t.Error(e)
	}
	d.Fail()
	if x, e := leaf.Open(d); x != nil || e != api.ErrDiskFailed {
		t.Error(e)
	}
	p.Cut(0)
	small.Write(0, s(1))
	if x, e := leaf.Open(d); x != nil || e != api.ErrDown {
		t.Error(e)
	}
}

func TestData(t *testing.T) {
	p, d, _, x := fresh(t, 324)
	is(t, x.Write(31, s(1)), api.OK)
	is(t, x.Write(32, s(1)), api.ErrArg)
	is(t, x.Write(0, s(2, 3)), api.OK)
	is(t, x.Write(0, make([]byte, 5)), api.ErrArg)
	is(t, x.Write(-1, s(1)), api.ErrArg)
	is(t, x.Write(32, nil), api.OK)
	is(t, x.Write(33, nil), api.ErrArg)
	for _, c := range [][3]int{{0, 33, 1}, {-1, 1, 1}, {0, -1, 1}, {math.MaxInt, 1, 1}, {1, math.MaxInt, 1}, {32, 0, 0}, {0, 32, 0}} {
		if b, e := x.Read(c[0], c[1]); int(e) != c[2] || len(b) != 0 && e != api.OK {
			t.Error(c, e)
		}
	}
	is(t, x.Flush(), api.OK)
	p.Up(nil)
	if b, e := x.Read(0, 2); e != api.OK || !bytes.Equal(b, s(2, 3)) {
		t.Error(e)
	}
	if b, _ := d.Read(274, 2); !bytes.Equal(b, s(2, 3)) {
		t.Error("not where data lies")
	}
	if y, e := leaf.Open(d); e != api.OK || y.Size() != 32 {
		t.Error(e)
	}
	d.Write(274+5, s(8))
	if b, e := x.Read(5, 1); e != api.OK || !bytes.Equal(b, s(8)) {
		t.Error("read elsewhere", e)
	}
	is(t, x.Write(6, s(9)), api.OK)
	if b, _ := d.Read(274+6, 1); !bytes.Equal(b, s(9)) {
		t.Error("written elsewhere")
	}
	d.Fail()
	if _, e := x.Read(99, 1); e != api.ErrDiskFailed {
		t.Error(e)
	}
	is(t, x.Write(99, nil), api.ErrDiskFailed)
	is(t, x.Flush(), api.ErrDiskFailed)
	is(t, x.Mark(api.Uber{Pool: 5, Txg: 1}), api.ErrDiskFailed)
	is(t, x.LogWrite(0, 1, make([]byte, 88)), api.ErrDiskFailed)
	if no, b, ok := x.LogRead(0); no != 0 || len(b) != 0 || ok || len(x.Ubers()) != 0 {
		t.Error("read of a failed disk")
	}
	x.Blame()
	x.Blame()
	if x.Faults() != (api.Faults{Reads: 1, Writes: 4, Sums: 2}) || !x.Failed() {
		t.Error(x.Faults())
	}
	p2, d2, _, y := fresh(t, 324)
	p2.Cut(0)
	d2.Write(0, s(1))
	if _, e := y.Read(99, 1); e != api.ErrDown {
		t.Error(e)
	}
	is(t, y.Write(99, nil), api.ErrDown)
	is(t, y.Flush(), api.ErrDown)
	is(t, y.Mark(api.Uber{Pool: 5, Txg: 1}), api.ErrDown)
	is(t, y.LogWrite(0, 1, make([]byte, 88)), api.ErrDown)
	if y.Faults() != (api.Faults{}) || y.Failed() || len(y.Ubers()) != 0 {
		t.Error(y.Faults())
	}
}

func TestMark(t *testing.T) {
	p, d, _, x := fresh(t, 324)
	is(t, x.Mark(api.Uber{Pool: 6, Txg: 3}), api.ErrArg)
	is(t, x.Mark(api.Uber{Pool: 6}), api.ErrUberState)
	if len(x.Ubers()) != 0 {
		t.Error("marked")
	}
	is(t, x.Mark(api.Uber{Pool: 5, Txg: 3}), api.OK)
	is(t, x.Mark(api.Uber{Pool: 5, Txg: 11, Note: 4}), api.OK)
	if l := x.Ubers(); len(l) != 1 || l[0] != (api.Uber{Pool: 5, Txg: 11, Note: 4}) {
		t.Error(l)
	}
	for i := uint64(12); i < 30; i++ {
		x.Mark(api.Uber{Pool: 5, Txg: i})
	}
	var got []uint64
	for _, u := range x.Ubers() {
		got = append(got, u.Txg)
	}
	if !slices.Equal(got, []uint64{29, 28, 27, 26, 25, 24, 23, 22}) {
		t.Error(got)
	}
	for i, at := range []int{0, 9, 306, 315} { // each ring has it; a copy that is another one is told behind
		b, _ := d.Read(at+1+29%8, 1)
		if u, e := ptr.DecodeUber(b); e != api.OK || u.Txg != 29 {
			t.Error(i, e)
		}
	}
	form, _ := ptr.EncodeUber(api.Uber{Pool: 5, Txg: 29, Note: 1})
	d.Write(9+1, form)
	strange, _ := ptr.EncodeUber(api.Uber{Pool: 9, Txg: 99})
	d.Write(315+1, strange)
	if l := x.Ubers(); len(l) != 9 || l[0].Note != 0 || l[1].Note != 1 || l[1].Txg != 29 {
		t.Error(l)
	}
	x.Flush()
	for at := range 27 {
		d.Write(at%9+1, s(9))
	}
	p.Up(nil)
	if l := x.Ubers(); len(l) != 9 || x.Faults() != (api.Faults{}) {
		t.Error(l)
	}
}

func TestLog(t *testing.T) {
	p, d, l, x := fresh(t, 324)
	b := bytes.Repeat([]byte{1}, 88)
	is(t, x.LogWrite(0, 7, b), api.OK)
	is(t, x.LogWrite(255, 1<<48, b), api.OK)
	is(t, x.LogWrite(9, 1, b), api.OK)
	image, _ := d.Read(18, 1)
	d.Write(17, image) // a log sector's likeness ahead of the log, and behind it
	d.Write(274, image)
	for _, c := range []struct {
		at int
		no uint64
		n  int
	}{{-1, 1, 88}, {256, 1, 88}, {0, 0, 88}, {0, 1<<48 + 1, 88}, {0, 1, 87}, {0, 1, 89}} {
		is(t, x.LogWrite(c.at, c.no, make([]byte, c.n)), api.ErrArg)
	}
	for _, c := range []struct {
		at int
		no uint64
	}{{0, 7}, {255, 1 << 48}, {9, 1}} {
		if no, got, ok := x.LogRead(c.at); no != c.no || !bytes.Equal(got, b) || !ok {
			t.Error(c, no, ok)
		}
	}
	for _, at := range []int{1, -1, 256, math.MaxInt} {
		if no, got, ok := x.LogRead(at); no != 0 || len(got) != 0 || ok {
			t.Error(at, no, ok)
		}
	}
	raw, _ := d.Read(18, 1)
	if raw[32] != 7 || !bytes.Equal(raw[40:], b) || raw[0] != byte(7+22*1) && raw[0] == 0 {
		t.Errorf("% x", raw)
	}
	x.Flush()
	p.Up(nil)
	for i := range 128 {
		mask := make([]byte, 128)
		mask[i] = 4
		d.Corrupt(18, mask)
		if _, _, ok := x.LogRead(0); ok {
			t.Error("turned", i)
		}
		d.Corrupt(18, mask)
	}
	if _, _, ok := x.LogRead(0); !ok || x.Faults() != (api.Faults{}) {
		t.Error(x.Faults())
	}
	if y, e := leaf.Open(d); e != api.OK || !reflect.DeepEqual(y.Label(), l) || len(y.Ubers()) != 0 {
		t.Error(e)
	}
}
