package disk_test

import (
	"bytes"
	"math"
	"math/rand"
	"testing"

	"undercroft/api"
	"undercroft/disk"
)

// s is sectors, each of one byte.
func s(l ...byte) []byte {
	var b []byte
	for _, x := range l {
		b = append(b, bytes.Repeat([]byte{x}, api.Sector)...)
	}
	return b
}

func reads(t *testing.T, d *disk.Disk, at, many int, want []byte) {
	t.Helper()
	if b, e := d.Read(at, many); e != api.OK || !bytes.Equal(b, want) {
		t.Errorf("Read(%d, %d): %d, % x..", at, many, e, b[:min(len(b), 4)])
	}
}

func is(t *testing.T, got, want api.Errno) {
	t.Helper()
	if got != want {
		t.Errorf("%d, not %d", got, want)
	}
}

func TestExamples(t *testing.T) {
	p := disk.NewPower()
	d, e := disk.New(p, 4)
	is(t, e, api.OK)
	is(t, d.Write(0, s(1, 2)), api.OK)
	is(t, d.Write(1, s(3)), api.OK)
	if p.Waiting() != 3 {
		t.Error(p.Waiting())
	}
	reads(t, d, 0, 2, s(1, 3))
	p.Up([]bool{false, true})
	reads(t, d, 0, 2, s(0, 2))
	p.Cut(1)
	is(t, d.Write(0, s(7, 8)), api.ErrDown)
	if _, e := d.Read(0, 1); p.On() || e != api.ErrDown {
		t.Error("on")
	}
	p.Up([]bool{true})
	reads(t, d, 0, 2, s(7, 2))
	if p.Writes() != 4 || !p.On() || p.Waiting() != 0 {
		t.Error(p.Writes())
	}
	is(t, d.Corrupt(1, []byte{2}), api.OK)
	want := s(2)
	want[0] = 0
	reads(t, d, 1, 1, want)
	d.Fail()
	is(t, d.Write(0, s(1)), api.ErrDiskFailed)
	d.Replace()
	reads(t, d, 0, 1, s(0))
}

func TestRefused(t *testing.T) {
	p := disk.NewPower()
	for _, n := range []int{0, -1, api.MaxSectors + 1, math.MaxInt, math.MinInt} {
		if d, e := disk.New(p, n); d != nil || e != api.ErrArg {
			t.Error(n, e)
		}
	}
	if d, e := disk.New(nil, 4); d != nil || e != api.ErrArg {
		t.Error(e)
	}
	if d, e := disk.New(p, api.MaxSectors); e != api.OK || d.Sectors() != api.MaxSectors {
		t.Error(e)
	}
	d, _ := disk.New(p, 4)
	for _, c := range []struct {
		at, many int
		e        api.Errno
	}{{0, 5, 1}, {-1, 1, 1}, {1, -1, 1}, {4, 1, 1}, {5, 0, 1}, {math.MaxInt, 1, 1}, {1, math.MaxInt, 1}, {math.MaxInt, math.MaxInt, 1}, {4, 0, 0}, {0, 4, 0}, {3, 1, 0}} {
		if b, e := d.Read(c.at, c.many); e != c.e || len(b) != 0 && e != api.OK {
			t.Error(c, e)
		}
	}
	is(t, d.Write(0, make([]byte, 127)), api.ErrArg)
	is(t, d.Write(3, s(1, 2)), api.ErrArg)
	is(t, d.Write(-1, s(1)), api.ErrArg)
	is(t, d.Write(-1, nil), api.ErrArg)
	is(t, d.Write(4, nil), api.OK)
	is(t, d.Write(5, nil), api.ErrArg)
	is(t, d.Write(math.MaxInt, nil), api.ErrArg)
	is(t, d.Corrupt(4, nil), api.ErrArg)
	is(t, d.Corrupt(-1, nil), api.ErrArg)
	is(t, d.Corrupt(0, make([]byte, 129)), api.ErrArg)
	if p.Writes() != 0 {
		t.Error("written")
	}
	d.Fail()
	is(t, d.Corrupt(9, nil), api.ErrDiskFailed)
	is(t, d.Write(9, nil), api.ErrDiskFailed)
	is(t, d.Flush(), api.ErrDiskFailed)
	other, _ := disk.New(p, 1)
	p.Cut(0)
	is(t, other.Write(0, s(1)), api.ErrDown)
	is(t, d.Write(9, nil), api.ErrDown)
	is(t, d.Flush(), api.ErrDown)
	is(t, other.Corrupt(0, []byte{1}), api.OK)
	if _, e := d.Read(9, 9); e != api.ErrDown {
		t.Error(e)
	}
	d.Replace()
	if d.Failed() {
		t.Error("failed")
	}
	p.Up(nil)
	want := s(0)
	want[0] = 1
	reads(t, other, 0, 1, want)
}

func TestCut(t *testing.T) {
	p := disk.NewPower()
	a, _ := disk.New(p, 3)
	b, _ := disk.New(p, 3)
	p.Cut(0)
	p.Cut(-7)
	is(t, a.Write(0, s(1, 1, 1)), api.OK)
	p.Cut(2)
	is(t, a.Write(0, s(2)), api.OK)
	if !p.On() {
		t.Error("out")
	}
	is(t, b.Write(0, s(3, 3)), api.ErrDown)
	if p.On() || p.Writes() != 5 || p.Waiting() != 5 {
		t.Error(p.Writes(), p.Waiting())
	}
	p.Cut(9)
	is(t, b.Write(0, s(3)), api.ErrDown)
	p.Up([]bool{true, true, true, true, true, true, true})
	reads(t, a, 0, 3, s(2, 1, 1))
	reads(t, b, 0, 3, s(3, 0, 0))
	is(t, b.Write(0, s(4, 4, 4)), api.OK)
}

func TestLost(t *testing.T) {
	p := disk.NewPower()
	a, _ := disk.New(p, 2)
	b, _ := disk.New(p, 2)
	a.Write(0, s(1))
	b.Write(0, s(2))
	a.Write(0, s(3))
	is(t, a.Flush(), api.OK)
	if p.Waiting() != 1 {
		t.Error(p.Waiting())
	}
	a.Write(1, s(4))
	b.Fail()
	if p.Waiting() != 1 || !b.Failed() || p.Writes() != 4 {
		t.Error(p.Waiting())
	}
	a.Replace()
	if p.Waiting() != 0 || p.Writes() != 4 {
		t.Error(p.Waiting())
	}
	reads(t, a, 0, 2, s(0, 0))
	in := s(5)
	a.Write(0, in)
	in[0] = 9
	got, _ := a.Read(0, 1)
	got[1] = 9
	reads(t, a, 0, 1, s(5))
	a.Corrupt(0, []byte{1})
	a.Write(0, s(6))
	p.Up([]bool{true})
	want := s(5)
	want[0] = 4
	reads(t, a, 0, 1, want)
}

// TestTurned looks at what Corrupt does to the platter, and to each write that waits.
func TestTurned(t *testing.T) {
	turned := func(b byte, mask []byte) []byte {
		x := s(b)
		for i, m := range mask {
			x[i] ^= m
		}
		return x
	}
	p := disk.NewPower()
	a, _ := disk.New(p, 2)
	b, _ := disk.New(p, 2)
	is(t, a.Write(0, s(1, 2)), api.OK)
	is(t, a.Flush(), api.OK)
	a.Write(0, s(3, 4))
	b.Write(0, s(5, 6))
	a.Write(0, s(7))
	mask := bytes.Repeat([]byte{0x10}, api.Sector)
	mask[0] = 0x20
	is(t, a.Corrupt(0, mask), api.OK)
	reads(t, a, 0, 2, append(turned(7, mask), s(4)...))
	reads(t, b, 0, 2, s(5, 6))
	p.Up([]bool{true, true, true, true, false})
	reads(t, a, 0, 2, append(turned(3, mask), s(4)...))
	reads(t, b, 0, 2, s(5, 6))
	is(t, a.Corrupt(1, nil), api.OK)
	is(t, a.Corrupt(0, mask), api.OK)
	p.Up(nil)
	reads(t, a, 0, 2, s(3, 4))
	a.Write(1, s(9))
	is(t, a.Corrupt(1, mask), api.OK)
	p.Up(nil)
	reads(t, a, 1, 1, turned(4, mask))
	a.Replace()
	reads(t, a, 0, 2, s(0, 0))
	a.Write(0, s(1))
	p.Up(nil)
	reads(t, a, 0, 2, s(0, 0))
	small, _ := disk.New(p, 1)
	is(t, small.Write(0, s(1)), api.OK)
	is(t, small.Flush(), api.OK)
}

// TestModel holds disks against all that a sector may be behind a crash.
func TestModel(t *testing.T) {
	r := rand.New(rand.NewSource(3))
	p := disk.NewPower()
	type one struct {
		d     *disk.Disk
		plat  [4]byte
		waits []int
	}
	type wait struct {
		disk, at int
		b        byte
	}
	var waits []wait
	ds := make([]*one, 3)
	for i := range ds {
		d, _ := disk.New(p, 4)
		ds[i] = &one{d: d}
	}
	for range 5000 {
		i := r.Intn(3)
		d := ds[i]
		switch r.Intn(6) {
		case 0, 1, 2:
			at, many := r.Intn(4), r.Intn(3)
			many = min(many, 4-at)
			var l []byte
			for k := range many {
				l = append(l, byte(r.Intn(256)))
				waits = append(waits, wait{i, at + k, l[k]})
			}
			is(t, d.d.Write(at, s(l...)), api.OK)
		case 3:
			is(t, d.d.Flush(), api.OK)
			var left []wait
			for _, w := range waits {
				if w.disk == i {
					d.plat[w.at] = w.b
				} else {
					left = append(left, w)
				}
			}
			waits = left
		case 4:
			if r.Intn(5) == 0 {
				stay := make([]bool, r.Intn(len(waits)+3))
				for k := range stay {
					stay[k] = r.Intn(2) == 0
				}
				for k, w := range waits {
					if k < len(stay) && stay[k] {
						ds[w.disk].plat[w.at] = w.b
					}
				}
				waits = nil
				p.Up(stay)
			}
		}
		want := d.plat
		for _, w := range waits {
			if w.disk == i {
				want[w.at] = w.b
			}
		}
		reads(t, d.d, 0, 4, s(want[:]...))
		if p.Waiting() != len(waits) {
			t.Fatal(p.Waiting())
		}
	}
}
