package vdev_test

import (
	"bytes"
	"math"
	"reflect"
	"testing"

	"undercroft/api"
	"undercroft/disk"
	"undercroft/leaf"
	"undercroft/sum"
	"undercroft/vdev"
)

func is(t *testing.T, got, want api.Errno) {
	t.Helper()
	if got != want {
		t.Errorf("%d, not %d", got, want)
	}
}

func disks(p *disk.Power, sectors ...int) []*disk.Disk {
	var l []*disk.Disk
	for _, n := range sectors {
		d, _ := disk.New(p, n)
		l = append(l, d)
	}
	return l
}

func mirror2() []api.Top { return []api.Top{{Kind: api.Mirror, Leaves: 2, Sectors: 400}} }

func fresh(t *testing.T) (*disk.Power, []*disk.Disk, *vdev.Tank) {
	t.Helper()
	p := disk.NewPower()
	d := disks(p, 400, 400)
	k, e := vdev.Create(7, mirror2(), d)
	if e != api.OK {
		t.Fatal(e)
	}
	return p, d, k
}

// mixed is a pool of a single leaf, a mirror and a parity.
func mixed(t *testing.T) (*disk.Power, []*disk.Disk, *vdev.Tank) {
	t.Helper()
	p := disk.NewPower()
	d := disks(p, 324, 400, 400, 350, 350, 350)
	k, e := vdev.Create(9, []api.Top{{Kind: 1, Leaves: 1, Sectors: 324}, {Kind: 2, Leaves: 2, Sectors: 400}, {Kind: 3, Leaves: 3, Sectors: 350}}, d)
	if e != api.OK {
		t.Fatal(e)
	}
	return p, d, k
}

func TestCreate(t *testing.T) {
	_, _, k := fresh(t)
	if k.Pool() != 7 || k.Size(0) != 108 || k.Need(0, 1024) != 8 || k.Size(1) != 0 || k.Size(-1) != 0 || k.Need(1, 1) != 0 || !reflect.DeepEqual(k.Tops(), mirror2()) {
		t.Error(k.Size(0), k.Tops())
	}
	k.Tops()[0].Kind = 9
	if k.Tops()[0].Kind != api.Mirror {
		t.Error("kept")
	}
	p := disk.NewPower()
	a := disks(p, 400, 400, 400)
	for i, c := range []struct {
		tops []api.Top
		d    []*disk.Disk
	}{{nil, nil}, {mirror2(), nil}, {mirror2(), a[:1]}, {mirror2(), a}, {mirror2(), []*disk.Disk{a[0], a[0]}}, {mirror2(), []*disk.Disk{a[0], nil}}, {mirror2(), []*disk.Disk{a[0], disks(p, 401)[0]}}, {[]api.Top{{Kind: 2, Leaves: 1, Sectors: 400}}, a[:1]}, {[]api.Top{{Kind: 1, Leaves: math.MaxInt, Sectors: 400}}, a}} {
		if k, e := vdev.Create(1, c.tops, c.d); k != nil || e != api.ErrVdevConfig {
			t.Error(i, e)
		}
	}
	if p.Writes() != 0 {
		t.Error("written")
	}
	a[1].Fail()
	if k, e := vdev.Create(1, mirror2(), a[:2]); k != nil || e != api.ErrDiskFailed {
		t.Error(e)
	}
}

func TestBlocks(t *testing.T) {
	p, d, k := mixed(t)
	b := bytes.Repeat([]byte("abc"), 100)
	s, _ := sum.Of(api.Sha256, b)
	for top := range 3 {
		q, e := k.Write(top, 5, b, api.Sha256, 2)
		if e != api.OK || q != (api.Ptr{Top: top, At: 5, Bytes: 300, Birth: 2, Kind: api.Sha256, Sum: s}) {
			t.Error(q, e)
		}
		if got, e := k.Read(q); e != api.OK || !bytes.Equal(got, b) {
			t.Error(e)
		}
		if n, e := k.Scrub(q); n != 0 || e != api.OK {
			t.Error(e)
		}
		if top == 1 {
			d[1].Corrupt(274+5, []byte{1})
			if n, e := k.Scrub(q); n != 1 || e != api.OK || k.Faults(1, 0).Sums != 1 {
				t.Error(n, e)
			}
		}
	}
	if k.Faults(3, 0) != (api.Faults{}) || k.Faults(1, 2) != (api.Faults{}) || k.Faults(1, -1) != (api.Faults{}) {
		t.Error("faults")
	}
	for i, c := range []struct {
		top, at, kind int
		txg           uint64
		e             api.Errno
	}{{3, 0, 1, 1, 1}, {-1, 0, 1, 1, 1}, {3, 0, 9, 1, 1}, {0, 99999, 3, 1, api.ErrSumKind}, {0, 99999, 1, 1, 1}, {0, 0, 1, 0, 1}} {
		if q, e := k.Write(c.top, c.at, b, c.kind, c.txg); q != (api.Ptr{}) || e != c.e {
			t.Error(i, q, e)
		}
	}
	for i, q := range []api.Ptr{{}, {Top: 3, Bytes: 1, Birth: 1, Kind: 1}, {Top: 0, At: 40000, Bytes: 1, Birth: 1, Kind: 1}, {Top: 0, Bytes: 1, Birth: 0, Kind: 1}} {
		x, e := k.Read(q)
		n, e2 := k.Scrub(q)
		if len(x) != 0 || n != 0 || e != api.ErrArg || e2 != api.ErrArg {
			t.Error(i, e, e2)
		}
	}
	if p.Waiting() == 0 || k.Flush() != api.OK || p.Waiting() != 0 {
		t.Error(p.Waiting())
	}
	d[0].Fail()
	is(t, k.Flush(), api.ErrIO)
}

func TestImport(t *testing.T) {
	p, d, k := mixed(t)
	if _, e := k.Best(); e != api.ErrVdevUber {
		t.Error(e)
	}
	u := api.Uber{Pool: 9, Txg: 3, Note: 8}
	is(t, k.Mark(u), api.OK)
	is(t, k.Flush(), api.OK)
	_, strange, _ := fresh(t)
	junk := disks(p, 400)[0]
	order := []*disk.Disk{nil, junk, d[4], d[2], d[2], strange[0], d[0], d[1], d[5], d[3]}
	x, e := vdev.Import(order)
	if e != api.OK || x.Pool() != 9 || !reflect.DeepEqual(x.Tops(), []api.Top{{Kind: 1, Leaves: 1, Sectors: 324}, {Kind: 2, Leaves: 2, Sectors: 400}, {Kind: 3, Leaves: 3, Sectors: 350}}) {
		t.Fatal(e)
	}
	if b, e := x.Best(); b != u || e != api.OK {
		t.Error(b, e)
	}
	for top := range 3 {
		for place := range 3 {
			if _, ok := x.Lacks(top, place); ok {
				t.Error(top, place)
			}
		}
	}
	q, _ := k.Write(2, 0, []byte("xyz"), 1, 3)
	x, e = vdev.Import([]*disk.Disk{d[1], d[0], d[5], d[3]})
	is(t, e, api.OK)
	if got, e := x.Read(q); string(got) != "xyz" || e != api.OK {
		t.Error(e)
	}
	for _, c := range [][2]int{{1, 1}, {2, 1}} {
		if b, ok := x.Lacks(c[0], c[1]); !ok || b != (api.Births{From: 1, To: 3}) {
			t.Error(c, b)
		}
	}
	for i, l := range [][]*disk.Disk{{d[0], d[1], d[2], d[3]}, {d[0], d[3], d[4]}, {d[1], d[3], d[4], d[5]}} {
		if x, e := vdev.Import(l); x != nil || e != api.ErrVdevMiss {
			t.Error(i, e)
		}
	}
	for _, l := range [][]*disk.Disk{nil, {nil}, {junk}} {
		if x, e := vdev.Import(l); x != nil || e != api.ErrLeafLabel {
			t.Error(e)
		}
	}
	d[1].Fail()
	x, e = vdev.Import(d)
	is(t, e, api.OK)
	if b, ok := x.Lacks(1, 0); !ok || b.To != 3 {
		t.Error(b)
	}
	p.Cut(0)
	junk.Write(0, make([]byte, 128))
	if x, e := vdev.Import([]*disk.Disk{strange[0], d[0]}); x != nil || e != api.ErrDown {
		t.Error(e)
	}
	if _, e := k.Best(); e != api.ErrDown {
		t.Error(e)
	}
	is(t, k.Mark(u), api.ErrDown)
	is(t, k.Flush(), api.ErrDown)
}

// TestStrangers hands disks of other pools in: with this number, with these tops.
func TestStrangers(t *testing.T) {
	p := disk.NewPower()
	a, b, c := disks(p, 400, 400), disks(p, 400, 400), disks(p, 400, 400, 400)
	vdev.Create(7, mirror2(), a)
	vdev.Create(8, mirror2(), b)
	vdev.Create(7, []api.Top{{Kind: api.Mirror, Leaves: 3, Sectors: 400}}, c)
	for _, other := range []*disk.Disk{b[0], c[0]} {
		k, e := vdev.Import([]*disk.Disk{a[1], other})
		is(t, e, api.OK)
		before, _ := other.Read(0, 400)
		k.Write(0, 0, []byte("x"), 1, 1)
		k.LogWrite(0, []byte("x"))
		after, _ := other.Read(0, 400)
		if _, ok := k.Lacks(0, 0); !ok || !bytes.Equal(before, after) {
			t.Error("a stranger is taken in")
		}
	}
	k, e := vdev.Import([]*disk.Disk{a[1], b[0], c[0]})
	is(t, e, api.OK)
	is(t, k.Mark(api.Uber{Pool: 7, Txg: 4}), api.OK)
	for i, d := range []*disk.Disk{a[0], a[1], b[0], c[0]} {
		l, _ := leaf.Open(d)
		if n := len(l.Ubers()); n != []int{0, 1, 0, 0}[i] {
			t.Error(i, n)
		}
	}
	// of one group the first leaf's uberblock is the best; of a log sector the one with the greatest number
	k, _ = vdev.Import(a)
	k.Flush()
	k.Mark(api.Uber{Pool: 7, Txg: 5, Note: 1})
	stay := make([]bool, 8)
	for i := range 4 {
		stay[i] = true
	}
	p.Up(stay)
	k.Mark(api.Uber{Pool: 7, Txg: 5, Note: 2})
	for i := range 4 {
		stay[i], stay[4+i] = false, true
	}
	p.Up(stay)
	k, _ = vdev.Import(a)
	if u, e := k.Best(); u.Note != 1 || e != api.OK {
		t.Error(u, e)
	}
	is(t, k.LogWrite(0, []byte{1}), api.OK)
	k.Flush()
	k.LogWrite(0, []byte{2})
	p.Up([]bool{true}) // the first leaf alone
	k, _ = vdev.Import(a)
	if b, e := k.LogRead(0, 1); e != api.OK || b[0] != 2 {
		t.Error(b, e)
	}
}

func TestMark(t *testing.T) {
	p, d, k := fresh(t)
	is(t, k.Mark(api.Uber{Pool: 8, Txg: 1}), api.ErrArg)
	is(t, k.Mark(api.Uber{Pool: 8}), api.ErrUberState)
	is(t, k.Mark(api.Uber{Pool: 7, Txg: 5}), api.OK)
	is(t, k.Flush(), api.OK)
	d[0].Fail()
	is(t, k.Mark(api.Uber{Pool: 7, Txg: 6}), api.OK)
	if b, e := k.Best(); b.Txg != 6 || e != api.OK {
		t.Error(b, e)
	}
	k.Write(0, 0, []byte("x"), 1, 7)
	d[0].Replace()
	is(t, k.Replace(0, 0, d[0], 7), api.OK)
	is(t, k.Mark(api.Uber{Pool: 7, Txg: 7}), api.OK)
	k.Flush()
	p.Up(nil)
	one, e := vdev.Import(d[:1])
	is(t, e, api.OK)
	if _, e := one.Best(); e != api.ErrVdevUber {
		t.Error("a leaf that lacks something is marked")
	}
	both, _ := vdev.Import(d)
	if b, ok := both.Lacks(0, 0); !ok || b != (api.Births{From: 1, To: 7}) {
		t.Error(b)
	}
	is(t, k.Whole(0, 0), api.OK)
	is(t, k.Mark(api.Uber{Pool: 7, Txg: 8}), api.OK)
	if b, e := vdev.Import(d[:1]); e != api.OK {
		t.Error(e)
	} else if u, _ := b.Best(); u.Txg != 8 {
		t.Error(u)
	}
	d[0].Fail()
	d[1].Fail()
	is(t, k.Mark(api.Uber{Pool: 7, Txg: 9}), api.ErrIO)
}

func TestReplace(t *testing.T) {
	p, d, k := fresh(t)
	n := disks(p, 400, 401)
	for i, c := range []struct {
		top, place int
		d          *disk.Disk
		txg        uint64
	}{{1, 0, n[0], 1}, {-1, 0, n[0], 1}, {0, 2, n[0], 1}, {0, -1, n[0], 1}, {0, 0, nil, 1}, {0, 0, d[1], 1}, {0, 0, n[1], 1}, {0, 0, n[0], 1<<48 + 1}} {
		if e := k.Replace(c.top, c.place, c.d, c.txg); e != api.ErrArg {
			t.Error(i, e)
		}
	}
	is(t, k.Replace(0, 0, n[0], 0), api.OK)
	if _, ok := k.Lacks(0, 0); ok {
		t.Error("lacks")
	}
	is(t, k.Replace(0, 0, n[0], 1), api.OK)
	if b, ok := k.Lacks(0, 0); !ok || b != (api.Births{From: 1, To: 1}) {
		t.Error(b)
	}
	is(t, k.Replace(0, 0, n[0], 4), api.OK)
	if b, ok := k.Lacks(0, 0); !ok || b != (api.Births{From: 1, To: 4}) {
		t.Error(b)
	}
	is(t, k.Replace(0, 1, d[0], 1<<48), api.OK)
	if _, ok := k.Lacks(1, 0); ok {
		t.Error("no such top")
	}
	is(t, k.Whole(1, 0), api.ErrArg)
	is(t, k.Whole(0, 2), api.ErrArg)
	is(t, k.Whole(0, 1), api.OK)
	l, e := leaf.Open(n[0])
	if e != api.OK || !reflect.DeepEqual(l.Label(), api.Label{Pool: 7, Tops: mirror2()}) {
		t.Error(e)
	}
	n[0].Fail()
	is(t, k.Replace(0, 0, n[0], 1), api.ErrDiskFailed)
}

func TestLog(t *testing.T) {
	p, d, k := fresh(t)
	logged := func(k *vdev.Tank, at, many int, want []byte) {
		t.Helper()
		if b, e := k.LogRead(at, many); e != api.OK || !bytes.Equal(b, want) {
			t.Errorf("%d: % x", e, b)
		}
	}
	logged(k, 0, api.LogSize, make([]byte, api.LogSize))
	b := bytes.Repeat([]byte{5}, 20)
	is(t, k.LogWrite(80, b), api.OK)
	logged(k, 80, 20, b)
	logged(k, 79, 22, append(append([]byte{0}, b...), 0))
	is(t, k.LogWrite(85, []byte{6, 6}), api.OK)
	logged(k, 84, 4, []byte{5, 6, 6, 5})
	is(t, k.LogWrite(api.LogSize, nil), api.OK)
	is(t, k.LogWrite(api.LogSize-1, []byte{7}), api.OK)
	logged(k, api.LogSize-1, 1, []byte{7})
	logged(k, api.LogSize, 0, nil)
	for _, at := range []int{-1, api.LogSize, math.MaxInt} {
		is(t, k.LogWrite(at, []byte{1}), api.ErrArg)
		if x, e := k.LogRead(at, 1); len(x) != 0 || e != api.ErrArg {
			t.Error(at, e)
		}
	}
	for _, many := range []int{-1, api.LogSize, math.MaxInt} {
		if _, e := k.LogRead(1, many); e != api.ErrArg {
			t.Error(many, e)
		}
	}
	numbers := func(at int) (n [2]uint64) {
		for i, x := range d {
			if l, e := leaf.Open(x); e == api.OK {
				n[i], _, _ = l.LogRead(at)
			}
		}
		return n
	}
	if numbers(0) != [2]uint64{3, 3} || numbers(1) != [2]uint64{2, 2} || numbers(255) != [2]uint64{4, 4} || numbers(2) != [2]uint64{} {
		t.Error(numbers(0), numbers(1), numbers(255))
	}
	is(t, k.Flush(), api.OK)
	k.LogWrite(0, []byte{9})
	p.Up([]bool{false, true}) // the second disk alone has it
	k, _ = vdev.Import(d)
	logged(k, 0, 1, []byte{9})
	is(t, k.LogWrite(200, []byte{1}), api.OK)
	if numbers(2) != [2]uint64{6, 6} {
		t.Error(numbers(2))
	}
	d[1].Fail()
	logged(k, 0, 1, []byte{0})
	is(t, k.LogWrite(0, []byte{3}), api.OK)
	d[0].Fail()
	is(t, k.LogWrite(0, []byte{3}), api.ErrIO)
	logged(k, 0, 1, []byte{0})
	p.Cut(0)
	is(t, k.LogWrite(0, []byte{3}), api.ErrIO) // no disk was written
	d[0].Replace()
	d[0].Write(0, make([]byte, 128))
	if _, e := k.LogRead(0, 0); e != api.ErrDown {
		t.Error(e)
	}
	is(t, k.LogWrite(0, []byte{3}), api.ErrDown)
	p.Up(nil)
	is(t, k.LogWrite(0, []byte{3}), api.OK)
	x, _ := leaf.Format(d[1], api.Label{})
	if x != nil {
		t.Error("no label")
	}
	raw, _ := d[0].Read(18, 1)
	if raw[32] != 10 { // 7 where a leaf took it, 8 and 9 where none did, none where the power was out
		t.Error(raw[32])
	}
}
