package parity_test

import (
	"bytes"
	"math"
	"math/rand"
	"testing"

	"undercroft/api"
	"undercroft/disk"
	"undercroft/leaf"
	"undercroft/parity"
	"undercroft/sum"
)

type rig struct {
	p *disk.Power
	d []*disk.Disk
	l []*leaf.Leaf
	t *parity.Top
}

func is(t *testing.T, got, want api.Errno) {
	t.Helper()
	if got != want {
		t.Errorf("%d, not %d", got, want)
	}
}

func newLeaf(p *disk.Power, sectors int) (*disk.Disk, *leaf.Leaf) {
	d, _ := disk.New(p, sectors)
	l, _ := leaf.Format(d, api.Label{Pool: 1, Tops: []api.Top{{Kind: 1, Leaves: 1, Sectors: sectors}}})
	return d, l
}

func fresh(t *testing.T, many int) *rig {
	t.Helper()
	r := &rig{p: disk.NewPower()}
	for range many {
		d, l := newLeaf(r.p, 324)
		r.d, r.l = append(r.d, d), append(r.l, l)
	}
	var e api.Errno
	if r.t, e = parity.New(r.l); e != api.OK {
		t.Fatal(e)
	}
	return r
}

func (r *rig) turn(leaf, row int) { r.d[leaf].Corrupt(api.Front+row, []byte{8}) }

func (r *rig) at(leaf, row int) []byte { b, _ := r.l[leaf].Read(row, 1); return b }

func some(seed int64, n int) []byte {
	b := make([]byte, n)
	rand.New(rand.NewSource(seed)).Read(b)
	return b
}

func of(b []byte) api.Sum { s, _ := sum.Of(api.Sha256, b); return s }

func (r *rig) reads(t *testing.T, at int, b []byte) {
	t.Helper()
	if got, e := r.t.Read(at, len(b), api.Sha256, of(b)); e != api.OK || !bytes.Equal(got, b) {
		t.Errorf("at %d: %d", at, e)
	}
}

func TestNew(t *testing.T) {
	p := disk.NewPower()
	_, a := newLeaf(p, 324)
	_, b := newLeaf(p, 325)
	for i, c := range []struct {
		l []*leaf.Leaf
		e api.Errno
	}{{nil, 60}, {[]*leaf.Leaf{a, a}, 60}, {[]*leaf.Leaf{a, nil, nil}, 60}, {[]*leaf.Leaf{a, b, a}, 60}, {[]*leaf.Leaf{nil, a, b}, 60}, {[]*leaf.Leaf{nil, a, a}, 0}, {[]*leaf.Leaf{a, a, a, nil, a}, 0}, {[]*leaf.Leaf{a, a, a, a, a, a}, 60}} {
		if x, e := parity.New(c.l); e != c.e || (x == nil) != (e != api.OK) {
			t.Error(i, e)
		}
	}
	for _, c := range [][3]int{{3, 1, 2}, {3, 256, 3}, {3, 257, 5}, {3, 1024, 12}, {3, 0, 0}, {3, 1025, 0}, {3, -1, 0}, {3, math.MaxInt, 0}, {4, 1024, 11}, {5, 1024, 10}, {5, 129, 3}} {
		if r := fresh(t, c[0]); r.t.Need(c[1]) != c[2] || r.t.Size() != 32*c[0] {
			t.Error(c, r.t.Need(c[1]), r.t.Size())
		}
	}
}

func TestLayout(t *testing.T) {
	r := fresh(t, 3)
	b := some(1, 300)
	is(t, r.t.Write(1, b, 5), api.OK) // sectors 1 to 5: parity on leaf 1, data on 2 and 0; parity on leaf 1, data on 2
	d0, d1, d2 := b[:128], b[128:256], append(bytes.Clone(b[256:]), make([]byte, 84)...)
	p0 := bytes.Clone(d0)
	for i := range p0 {
		p0[i] ^= d1[i]
	}
	for i, c := range []struct {
		leaf, row int
		want      []byte
	}{{1, 0, p0}, {2, 0, d0}, {0, 1, d1}, {1, 1, d2}, {2, 1, d2}} {
		if !bytes.Equal(r.at(c.leaf, c.row), c.want) {
			t.Error(i)
		}
	}
	r.reads(t, 1, b)
}

func TestArgs(t *testing.T) {
	r := fresh(t, 3)
	for i, c := range []struct {
		at, n int
		txg   uint64
		e     api.Errno
	}{{94, 128, 1, 0}, {95, 128, 1, 1}, {-1, 1, 1, 1}, {0, 0, 1, 1}, {0, 1025, 1, 1}, {0, 1024, 1 << 48, 0}, {0, 1, 0, 1}, {0, 1, 1<<48 + 1, 1}, {math.MaxInt, 1, 1, 1}} {
		if e := r.t.Write(c.at, make([]byte, c.n), c.txg); e != c.e {
			t.Error(i, e)
		}
	}
	for i, c := range [][3]int{{95, 128, 1}, {-1, 1, 1}, {0, 0, 1}, {0, 1025, 1}, {0, 1, 0}, {0, 1, 3}, {math.MaxInt, 1, 1}} {
		_, e := r.t.Read(c[0], c[1], c[2], api.Sum{})
		n, e2 := r.t.Scrub(c[0], c[1], c[2], api.Sum{})
		if e != api.ErrArg || e2 != api.ErrArg || n != 0 {
			t.Error(i, e, e2)
		}
	}
}

func TestAnyOneLost(t *testing.T) {
	for many := 3; many <= 5; many++ {
		for n := 1; n <= 1024; n += 61 {
			for lost := range many {
				r := fresh(t, many)
				b := some(int64(n), n)
				is(t, r.t.Write(n%11, b, 5), api.OK)
				r.d[lost].Fail()
				r.reads(t, n%11, b)
				if k, e := r.t.Scrub(n%11, n, api.Sha256, of(b)); k != 0 || e != api.OK {
					t.Error(many, n, lost, k, e)
				}
				c := some(int64(n)+9999, n)
				is(t, r.t.Write(n%11, c, 6), api.OK)
				r.reads(t, n%11, c)
			}
		}
	}
}

func TestAnyOneWrong(t *testing.T) {
	for many := 3; many <= 5; many++ {
		for n := 1; n <= 1024; n += 101 {
			for wrong := range many {
				r := fresh(t, many)
				b := some(int64(n), n)
				at := n % 7
				r.t.Write(at, b, 5)
				r.t.Flush()
				for row := range 32 {
					r.turn(wrong, row)
				}
				has, isData := false, false
				for i := range r.t.Need(n) {
					has = has || (at+i)%many == wrong
					isData = isData || (at+i)%many == wrong && i%many != 0 && (i-i/many-1)*128 < n
				}
				r.reads(t, at, b)
				if got := r.l[wrong].Faults().Sums; got != map[bool]int{true: 1}[isData] {
					t.Error("Read blames", many, n, wrong, got)
				}
				want := 0
				if has && !isData { // a wrong parity is nothing to Read, but Scrub mends it
					want = 1
				}
				if k, e := r.t.Scrub(at, n, api.Sha256, of(b)); k != want || e != api.OK {
					t.Error("Scrub", many, n, wrong, k, e)
				}
				r.d[(wrong+1)%many].Fail()
				r.reads(t, at, b)
			}
		}
	}
}

func TestTwo(t *testing.T) {
	r := fresh(t, 4)
	b := some(3, 600)
	r.t.Write(0, b, 5)
	r.turn(1, 0)
	r.turn(2, 0)
	if x, e := r.t.Read(0, 600, api.Sha256, of(b)); len(x) != 0 || e != api.ErrIO {
		t.Error(e)
	}
	if n, e := r.t.Scrub(0, 600, api.Sha256, of(b)); n != 0 || e != api.ErrIO || r.l[1].Faults().Sums != 0 {
		t.Error(n, e)
	}
	r.turn(2, 0)
	if n, e := r.t.Scrub(0, 600, api.Sha256, of(b)); n != 1 || e != api.OK || r.l[1].Faults().Sums != 1 {
		t.Error(n, e)
	}
	r.turn(0, 0) // parities of two rows that lie on one leaf are one leaf that is wrong
	r.turn(0, 1)
	r.d[3].Corrupt(api.Front+1, []byte{1}) // of it the block has nothing
	if n, e := r.t.Scrub(0, 600, api.Sha256, of(b)); n != 1 || e != api.OK || r.l[0].Faults().Sums != 1 {
		t.Error(n, e)
	}
	r.turn(1, 0)
	r.d[2].Fail()
	if _, e := r.t.Read(0, 600, api.Sha256, of(b)); e != api.ErrIO {
		t.Error(e)
	}
	r.d[1].Fail()
	if _, e := r.t.Read(0, 600, api.Sha256, of(b)); e != api.ErrIO {
		t.Error(e)
	}
	if n, e := r.t.Scrub(0, 600, api.Sha256, of(b)); n != 0 || e != api.ErrIO {
		t.Error(n, e)
	}
	is(t, r.t.Write(0, b, 9), api.ErrIO)
	is(t, r.t.Flush(), api.ErrIO)
	is(t, r.t.Write(3, b[:1], 10), api.OK) // on the leaves 3 and 0 alone
	if x, ok := r.t.Lacks(1); !ok || x != (api.Births{From: 9, To: 9}) {
		t.Error(x)
	}
}

func TestLacks(t *testing.T) {
	r := fresh(t, 3)
	r.d[0].Fail()
	is(t, r.t.Write(1, some(1, 1), 7), api.OK) // on the leaves 1 and 2
	if _, ok := r.t.Lacks(0); ok {
		t.Error("lacks what does not lie there")
	}
	is(t, r.t.Write(0, some(1, 1024), 8), api.OK)
	is(t, r.t.Flush(), api.OK)
	if b, ok := r.t.Lacks(0); !ok || b != (api.Births{From: 8, To: 8}) || r.l[0].Faults().Writes != 5 {
		t.Error(b, r.l[0].Faults())
	}
	for _, c := range []struct {
		place    int
		from, to uint64
		e        api.Errno
	}{{0, 0, 3, 1}, {0, 3, 2, 1}, {0, 1, 1<<48 + 1, 1}, {3, 1, 1, 1}, {-1, 1, 1, 1}, {0, 6, 6, 0}, {1, 2, 3, 0}} {
		is(t, r.t.Behind(c.place, api.Births{From: c.from, To: c.to}), c.e)
	}
	if b, _ := r.t.Lacks(0); b != (api.Births{From: 6, To: 8}) {
		t.Error(b)
	}
	is(t, r.t.Whole(1), api.OK)
	is(t, r.t.Whole(3), api.ErrArg)
	_, other := newLeaf(r.p, 325)
	_, same := newLeaf(r.p, 324)
	is(t, r.t.Put(0, other), api.ErrArg)
	is(t, r.t.Put(0, nil), api.ErrArg)
	is(t, r.t.Put(3, same), api.ErrArg)
	is(t, r.t.Put(0, same), api.OK)
	for p := range 5 {
		if _, ok := r.t.Lacks(p - 1); ok {
			t.Error(p - 1)
		}
	}
	b := some(1, 1024)
	if n, e := r.t.Scrub(0, 1024, api.Sha256, of(b)); n != 1 || e != api.OK {
		t.Error(n, e)
	}
	r.d[1].Fail()
	r.reads(t, 0, b)
	m, _ := parity.New([]*leaf.Leaf{r.l[2], nil, same})
	is(t, m.Write(2, b[:1], 3), api.OK) // on the leaves 2 and 0 alone
	if x, ok := m.Lacks(1); !ok || x.From != 3 {
		t.Error("a missing one lacks nothing")
	}
	r.p.Cut(1)
	is(t, r.t.Write(0, b, 20), api.ErrDown)
	is(t, r.t.Flush(), api.ErrDown)
	if _, e := r.t.Read(0, 1024, api.Sha256, of(b)); e != api.ErrDown {
		t.Error(e)
	}
	if _, ok := r.t.Lacks(1); ok {
		t.Error("lacks what was broken off")
	}
}

// TestDown lets the power go out while a block is put right; no more is written than is wrong.
func TestDown(t *testing.T) {
	b := some(9, 700)
	for i := range 2 {
		r := fresh(t, 3)
		r.t.Write(0, b, 3)
		r.t.Flush()
		r.turn(1, 0)
		before := r.p.Writes()
		r.reads(t, 0, b)
		if n := r.p.Writes() - before; n != 1 {
			t.Error("written", n)
		}
		r.turn(1, 0)
		before = r.p.Writes()
		if n, e := r.t.Scrub(0, 700, api.Sha256, of(b)); n != 1 || e != api.OK || r.p.Writes()-before != 1 {
			t.Error(n, e, r.p.Writes()-before)
		}
		r.turn(1, 0)
		r.p.Cut(0)
		if i == 0 {
			if x, e := r.t.Read(0, 700, api.Sha256, of(b)); len(x) != 0 || e != api.ErrDown {
				t.Error(e)
			}
		} else if n, e := r.t.Scrub(0, 700, api.Sha256, of(b)); n != 0 || e != api.ErrDown {
			t.Error(n, e)
		}
		if n, e := r.t.Scrub(0, 700, api.Sha256, of(b)); n != 0 || e != api.ErrDown {
			t.Error(n, e)
		}
	}
	r := fresh(t, 3)
	m, e := parity.New([]*leaf.Leaf{r.l[0], nil, r.l[2]})
	is(t, e, api.OK)
	is(t, m.Write(0, b, 3), api.OK)
	if x, e := m.Read(0, 700, api.Sha256, of(b)); e != api.OK || !bytes.Equal(x, b) {
		t.Error(e)
	}
	r.turn(0, 1)
	if _, e := m.Read(0, 700, api.Sha256, of(b)); e != api.ErrIO {
		t.Error(e)
	}
}
