package mirror_test

import (
	"bytes"
	"math"
	"testing"

	"undercroft/api"
	"undercroft/disk"
	"undercroft/leaf"
	"undercroft/mirror"
	"undercroft/sum"
)

type rig struct {
	p *disk.Power
	d []*disk.Disk
	l []*leaf.Leaf
	t *mirror.Top
}

func is(t *testing.T, got, want api.Errno) {
	t.Helper()
	if got != want {
		t.Errorf("%d, not %d", got, want)
	}
}

func newLeaf(p *disk.Power, sectors int) (*disk.Disk, *leaf.Leaf) {
	d, _ := disk.New(p, sectors)
	l, _ := leaf.Format(d, api.Label{Pool: 1, Tops: []api.Top{{Kind: 1, Leaves: 1, Sectors: sectors}}})
	return d, l
}

func fresh(t *testing.T, many int) *rig {
	t.Helper()
	r := &rig{p: disk.NewPower()}
	for range many {
		d, l := newLeaf(r.p, 324)
		r.d, r.l = append(r.d, d), append(r.l, l)
	}
	var e api.Errno
	if r.t, e = mirror.New(r.l); e != api.OK {
		t.Fatal(e)
	}
	return r
}

// turn turns a data sector of a disk about.
func (r *rig) turn(disk, at int) { r.d[disk].Corrupt(api.Front+at, []byte{8}) }

func of(b string) api.Sum { s, _ := sum.Of(api.Fletcher4, []byte(b)); return s }

func TestNew(t *testing.T) {
	p := disk.NewPower()
	_, a := newLeaf(p, 324)
	_, b := newLeaf(p, 325)
	for i, c := range []struct {
		l []*leaf.Leaf
		e api.Errno
	}{{nil, 60}, {[]*leaf.Leaf{nil}, 60}, {[]*leaf.Leaf{nil, nil}, 60}, {[]*leaf.Leaf{a, b}, 60}, {[]*leaf.Leaf{a, nil, a}, 0}, {[]*leaf.Leaf{a, a, a, a, a}, 0}, {[]*leaf.Leaf{a, a, a, a, a, a}, 60}, {[]*leaf.Leaf{nil, b}, 0}} {
		if x, e := mirror.New(c.l); e != c.e || (x == nil) != (e != api.OK) {
			t.Error(i, e)
		}
	}
	r := fresh(t, 2)
	for _, c := range [][2]int{{1024, 8}, {129, 2}, {128, 1}, {1, 1}, {0, 0}, {1025, 0}, {-1, 0}, {math.MaxInt, 0}} {
		if r.t.Need(c[0]) != c[1] {
			t.Error(c, r.t.Need(c[0]))
		}
	}
	if r.t.Size() != 32 {
		t.Error(r.t.Size())
	}
}

func TestArgs(t *testing.T) {
	r := fresh(t, 2)
	for i, c := range []struct {
		at, n int
		txg   uint64
		e     api.Errno
	}{{31, 128, 1, 0}, {31, 129, 1, 1}, {-1, 1, 1, 1}, {0, 0, 1, 1}, {0, 1025, 1, 1}, {0, 1024, 1 << 48, 0}, {0, 1, 0, 1}, {0, 1, 1<<48 + 1, 1}, {math.MaxInt, 1, 1, 1}} {
		if e := r.t.Write(c.at, make([]byte, c.n), c.txg); e != c.e {
			t.Error(i, e)
		}
	}
	for i, c := range [][3]int{{31, 129, 1}, {-1, 1, 1}, {0, 0, 1}, {0, 1025, 1}, {0, 1, 0}, {0, 1, 3}, {math.MaxInt, 1, 1}} {
		_, e := r.t.Read(c[0], c[1], c[2], api.Sum{})
		n, e2 := r.t.Scrub(c[0], c[1], c[2], api.Sum{})
		if e != api.ErrArg || e2 != api.ErrArg || n != 0 {
			t.Error(i, e, e2)
		}
	}
}

func TestRead(t *testing.T) {
	r := fresh(t, 3)
	is(t, r.t.Write(3, []byte("ab"), 7), api.OK)
	r.turn(0, 3)
	r.turn(1, 3)
	b, e := r.t.Read(3, 2, api.Fletcher4, of("ab"))
	if string(b) != "ab" || e != api.OK {
		t.Errorf("%q %d", b, e)
	}
	for i, want := range []int{1, 1, 0} {
		x, _ := r.l[i].Read(3, 1)
		if r.l[i].Faults().Sums != want || !bytes.Equal(x, append([]byte("ab"), make([]byte, 126)...)) {
			t.Error(i, r.l[i].Faults())
		}
	}
	r.turn(2, 3)
	if b, e := r.t.Read(3, 2, api.Fletcher4, of("ab")); string(b) != "ab" || e != api.OK || r.l[2].Faults().Sums != 0 {
		t.Error("a leaf behind the right one was read")
	}
	b, e = r.t.Read(3, 2, api.Sha256, of("ab"))
	if len(b) != 0 || e != api.ErrIO || r.l[2].Faults().Sums != 1 || r.l[0].Faults().Sums != 2 {
		t.Error(e)
	}
	if x, _ := r.l[2].Read(3, 1); x[0] == 'a' {
		t.Error("written")
	}
	r.turn(0, 3)
	r.p.Cut(0)
	if b, e := r.t.Read(3, 2, api.Fletcher4, of("ab")); len(b) != 0 || e != api.ErrDown {
		t.Error(e)
	}
	is(t, r.t.Write(0, []byte("x"), 9), api.ErrDown)
	is(t, r.t.Flush(), api.ErrDown)
	if _, ok := r.t.Lacks(0); ok {
		t.Error("lacks")
	}
}

func TestScrub(t *testing.T) {
	r := fresh(t, 3)
	r.t.Write(3, []byte("ab"), 7)
	if n, e := r.t.Scrub(3, 2, api.Fletcher4, of("ab")); n != 0 || e != api.OK {
		t.Error(n, e)
	}
	r.turn(2, 3)
	r.turn(0, 3)
	if n, e := r.t.Scrub(3, 2, api.Fletcher4, of("ab")); n != 2 || e != api.OK {
		t.Error(n, e)
	}
	for i, l := range r.l {
		if x, _ := l.Read(3, 1); string(x[:2]) != "ab" || l.Faults().Sums != []int{1, 0, 1}[i] {
			t.Error(i)
		}
	}
	r.d[1].Fail()
	r.turn(0, 3)
	if n, e := r.t.Scrub(3, 2, api.Fletcher4, of("ab")); n != 1 || e != api.OK || r.l[1].Faults().Reads != 1 {
		t.Error(n, e)
	}
	if n, e := r.t.Scrub(3, 2, api.Fletcher4, of("xy")); n != 0 || e != api.ErrIO || r.l[2].Faults().Sums != 2 {
		t.Error(n, e)
	}
	r.turn(0, 3)
	r.p.Cut(0)
	if n, e := r.t.Scrub(3, 2, api.Fletcher4, of("ab")); n != 0 || e != api.ErrDown {
		t.Error(n, e)
	}
}

func TestLacks(t *testing.T) {
	r := fresh(t, 2)
	r.d[0].Fail()
	is(t, r.t.Write(4, []byte("cd"), 8), api.OK)
	is(t, r.t.Write(4, []byte("ef"), 5), api.OK)
	if b, ok := r.t.Lacks(0); b != (api.Births{From: 5, To: 8}) || !ok {
		t.Error(b, ok)
	}
	for _, p := range []int{1, 2, -1} {
		if b, ok := r.t.Lacks(p); b != (api.Births{}) || ok {
			t.Error(p, b)
		}
	}
	is(t, r.t.Flush(), api.OK)
	for _, c := range []struct {
		place    int
		from, to uint64
		e        api.Errno
	}{{0, 0, 3, 1}, {0, 3, 2, 1}, {0, 1, 1<<48 + 1, 1}, {2, 1, 1, 1}, {-1, 1, 1, 1}, {0, 6, 9, 0}, {1, 1 << 48, 1 << 48, 0}} {
		is(t, r.t.Behind(c.place, api.Births{From: c.from, To: c.to}), c.e)
	}
	if b, _ := r.t.Lacks(0); b != (api.Births{From: 5, To: 9}) {
		t.Error(b)
	}
	is(t, r.t.Whole(1), api.OK)
	is(t, r.t.Whole(2), api.ErrArg)
	is(t, r.t.Whole(-1), api.ErrArg)
	if _, ok := r.t.Lacks(1); ok {
		t.Error("lacks")
	}
	r.d[1].Fail()
	is(t, r.t.Write(4, []byte("gh"), 9), api.ErrIO)
	is(t, r.t.Flush(), api.ErrIO)
	if _, e := r.t.Read(4, 2, 1, of("ef")); e != api.ErrIO {
		t.Error(e)
	}
	_, other := newLeaf(r.p, 325)
	_, same := newLeaf(r.p, 324)
	is(t, r.t.Put(0, other), api.ErrArg)
	is(t, r.t.Put(0, nil), api.ErrArg)
	is(t, r.t.Put(2, same), api.ErrArg)
	is(t, r.t.Put(0, same), api.OK)
	if _, ok := r.t.Lacks(0); ok {
		t.Error("lacks")
	}
	is(t, r.t.Write(4, []byte("gh"), 9), api.OK)
	if b, e := r.t.Read(4, 2, 1, of("gh")); string(b) != "gh" || e != api.OK {
		t.Error(e)
	}
	m, _ := mirror.New([]*leaf.Leaf{nil, same})
	is(t, m.Write(0, []byte("x"), 3), api.OK)
	if b, ok := m.Lacks(0); b != (api.Births{From: 3, To: 3}) || !ok {
		t.Error(b, ok)
	}
}

// TestDown asks where the power is out, or goes out while a block is put right.
func TestDown(t *testing.T) {
	r := fresh(t, 2)
	r.t.Write(3, []byte("ab"), 7)
	r.t.Flush()
	for i := range 2 {
		r.turn(0, 3)
		r.p.Cut(0)
		if i == 0 {
			if n, e := r.t.Scrub(3, 2, api.Fletcher4, of("ab")); n != 0 || e != api.ErrDown {
				t.Error(n, e)
			}
		} else if b, e := r.t.Read(3, 2, api.Fletcher4, of("ab")); len(b) != 0 || e != api.ErrDown {
			t.Error(e)
		}
		if b, e := r.t.Read(3, 2, api.Fletcher4, of("ab")); len(b) != 0 || e != api.ErrDown {
			t.Error(e)
		}
		if n, e := r.t.Scrub(3, 2, api.Fletcher4, of("ab")); n != 0 || e != api.ErrDown {
			t.Error(n, e)
		}
		r.p.Up(nil)
		r.turn(0, 3)
	}
	one, e := mirror.New(r.l[:1]) // a single leaf
	is(t, e, api.OK)
	whole := make([]byte, 1024)
	whole[1023] = 1
	is(t, one.Write(24, whole, 1), api.OK)
	if b, e := one.Read(24, 1024, api.Fletcher4, of(string(whole))); e != api.OK || !bytes.Equal(b, whole) {
		t.Error(e)
	}
	r.turn(0, 31)
	if _, e := one.Read(24, 1024, api.Fletcher4, of(string(whole))); e != api.ErrIO {
		t.Error(e)
	}
}

// TestDownBetween lets the power go out behind the first leaf of two.
func TestDownBetween(t *testing.T) {
	a, b := disk.NewPower(), disk.NewPower()
	_, x := newLeaf(a, 324)
	d, y := newLeaf(b, 324)
	m, _ := mirror.New([]*leaf.Leaf{nil, x, y, nil})
	b.Cut(0)
	d.Write(0, make([]byte, 128))
	is(t, m.Write(0, []byte("x"), 3), api.ErrDown)
	for p, want := range []bool{true, false, false, false} {
		if _, ok := m.Lacks(p); ok != want {
			t.Error(p, ok)
		}
	}
}
