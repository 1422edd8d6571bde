package heal_test

import (
	"bytes"
	"math"
	"math/rand"
	"slices"
	"testing"

	"undercroft/api"
	"undercroft/disk"
	"undercroft/heal"
	"undercroft/store"
	"undercroft/vdev"
)

func is(t *testing.T, got, want api.Errno) {
	t.Helper()
	if got != want {
		t.Errorf("%d, not %d", got, want)
	}
}

type rig struct {
	p *disk.Power
	d []*disk.Disk
	s *store.Store
}

func fresh(t *testing.T, tops ...api.Top) *rig {
	t.Helper()
	r := &rig{p: disk.NewPower()}
	for _, x := range tops {
		for range x.Leaves {
			d, _ := disk.New(r.p, x.Sectors)
			r.d = append(r.d, d)
		}
	}
	k, e := vdev.Create(1, tops, r.d)
	is(t, e, api.OK)
	r.s, e = store.New(k)
	is(t, e, api.OK)
	return r
}

func (r *rig) again(t *testing.T, d []*disk.Disk) {
	t.Helper()
	k, e := vdev.Import(d)
	if e != api.OK {
		t.Fatal(e)
	}
	if r.s, e = store.Open(k); e != api.OK {
		t.Fatal(e)
	}
}

// fill commits some objects: how many blocks the store has.
func (r *rig) fill(t *testing.T) int {
	t.Helper()
	x := rand.New(rand.NewSource(7))
	for i := 1; i < 6; i++ {
		b := make([]byte, 3000*i)
		x.Read(b)
		is(t, r.s.Write(i, 0, b), api.OK)
		is(t, r.s.Commit(uint64(i)), api.OK)
	}
	r.s.Fork(5, 6)
	is(t, r.s.Commit(9), api.OK)
	seen := map[[2]int]bool{}
	for o := range 113 {
		for _, p := range r.s.Blocks(o) {
			seen[[2]int{p.Top, p.At}] = true
		}
	}
	return len(seen)
}

func (r *rig) content(t *testing.T) []byte {
	t.Helper()
	var all []byte
	for _, o := range r.s.Objects() {
		b, e := r.s.Read(o, 0, 1<<20)
		is(t, e, api.OK)
		all = append(append(all, byte(o)), b...)
	}
	return all
}

var m2 = api.Top{Kind: api.Mirror, Leaves: 2, Sectors: 2048}
var p3 = api.Top{Kind: api.Parity, Leaves: 3, Sectors: 1000}

func TestScrub(t *testing.T) {
	r := fresh(t, m2, p3)
	n := r.fill(t)
	zero := api.Cursor{}
	c, h, e := heal.Scrub(r.s, zero, 1000)
	if c != (api.Cursor{Done: true}) || h != (api.Healed{Blocks: n}) || e != api.OK {
		t.Error(c, h, e, n)
	}
	c, h, e = heal.Scrub(r.s, zero, 1)
	if c.Done || c.At == 0 || h != (api.Healed{Blocks: 1}) || e != api.OK {
		t.Error(c, h, e)
	}
	if c, h, e = heal.Scrub(r.s, zero, n); !c.Done || h.Blocks != n || e != api.OK {
		t.Error(c, h, e)
	}
	if c, h, e = heal.Scrub(r.s, api.Cursor{Top: 1, At: 3}, 0); c != (api.Cursor{Top: 1, At: 3}) || h != (api.Healed{}) || e != api.OK {
		t.Error(c, h, e)
	}
	if c, h, e = heal.Scrub(r.s, api.Cursor{Top: 1, At: math.MaxInt}, 0); c != (api.Cursor{Done: true}) || h != (api.Healed{}) || e != api.OK {
		t.Error(c, h, e)
	}
	if c, h, e = heal.Scrub(r.s, api.Cursor{Top: 1, At: 3, Done: true}, 9); c != (api.Cursor{Top: 1, At: 3, Done: true}) || h != (api.Healed{}) || e != api.OK {
		t.Error(c, h, e)
	}
	for i, x := range []struct {
		c api.Cursor
		n int
	}{{zero, -1}, {api.Cursor{Top: -1}, 1}, {api.Cursor{At: -1}, 1}, {api.Cursor{At: -1, Done: true}, 1}} {
		c, h, e := heal.Scrub(r.s, x.c, x.n)
		c2, h2, e2 := heal.Resilver(r.s, 0, 0, x.c, x.n)
		if c != zero || h != (api.Healed{}) || e != api.ErrArg || c2 != zero || h2 != h || e2 != api.ErrArg {
			t.Error(i, c, h, e, e2)
		}
	}
}

func TestMends(t *testing.T) {
	for pieces := 1; pieces < 40; pieces += 6 {
		r := fresh(t, m2, p3)
		n := r.fill(t)
		want := r.content(t)
		for at := 274; at < 2030; at += 5 {
			r.d[1].Corrupt(at, []byte{1})
		}
		for at := 274; at < 982; at += 3 {
			r.d[4].Corrupt(at, []byte{9})
		}
		var sum api.Healed
		for c := (api.Cursor{}); !c.Done; {
			next, h, e := heal.Scrub(r.s, c, pieces)
			is(t, e, api.OK)
			if r.p.Waiting() != 0 {
				t.Fatal("not flushed")
			}
			c, sum.Blocks, sum.Copies, sum.Lost = next, sum.Blocks+h.Blocks, sum.Copies+h.Copies, sum.Lost+h.Lost
			r.p.Up(nil)
			r.again(t, r.d)
		}
		if sum.Blocks != n || sum.Copies == 0 || sum.Lost != 0 {
			t.Error(sum, n)
		}
		if _, h, e := heal.Scrub(r.s, api.Cursor{}, 999); h != (api.Healed{Blocks: n}) || e != api.OK {
			t.Error(h, e)
		}
		r.d[0].Fail()
		r.d[2].Fail()
		r.again(t, r.d)
		if !bytes.Equal(r.content(t), want) {
			t.Error("not right")
		}
	}
}

func TestLost(t *testing.T) {
	r := fresh(t, api.Top{Kind: api.Mirror, Leaves: 2, Sectors: 4096})
	n := r.fill(t)
	p := r.s.Blocks(3)[1]
	for _, d := range r.d {
		d.Corrupt(274+p.At, []byte{1})
	}
	q := r.s.Blocks(1)[0]
	r.d[0].Corrupt(274+q.At, []byte{1})
	c, h, e := heal.Scrub(r.s, api.Cursor{}, 999)
	if !c.Done || h != (api.Healed{Blocks: n, Copies: 1, Lost: 1}) || e != api.OK {
		t.Error(c, h, e)
	}
	r.d[0].Corrupt(274+q.At, []byte{1})
	r.p.Cut(0)
	if c, h, e := heal.Scrub(r.s, api.Cursor{}, 999); c != (api.Cursor{}) || h != (api.Healed{}) || e != api.ErrDown {
		t.Error(c, h, e)
	}
	r.p.Up(nil)
	r.d[0].Fail()
	r.d[1].Fail()
	if c, h, e := heal.Scrub(r.s, api.Cursor{}, 999); c != (api.Cursor{}) || h != (api.Healed{}) || e != api.ErrIO {
		t.Error(c, h, e)
	}
}

func TestResilver(t *testing.T) {
	tops := []api.Top{m2, p3, {Kind: api.Mirror, Leaves: 3, Sectors: 500}}
	for bad := range 8 {
		for pieces := 1; pieces < 50; pieces += 12 {
			top := []int{0, 0, 1, 1, 1, 2, 2, 2}[bad]
			place := []int{0, 1, 0, 1, 2, 0, 1, 2}[bad]
			r := fresh(t, tops...)
			r.fill(t)
			is(t, r.s.LogWrite(5, []byte("log")), api.OK)
			r.s.LogFlush()
			want := r.content(t)
			before := r.p.Writes()
			if c, h, e := heal.Resilver(r.s, top, place, api.Cursor{Top: 5}, 1); c != (api.Cursor{Done: true}) || h != (api.Healed{}) || e != api.OK || r.p.Writes() != before {
				t.Error(c, h, e, "or written")
			}
			r.d[bad].Fail()
			r.d[bad].Replace()
			is(t, r.s.Tank().Replace(top, place, r.d[bad], r.s.Txg()), api.OK)
			looked, steps := 0, 0
			for c := (api.Cursor{}); !c.Done; {
				next, h, e := heal.Resilver(r.s, top, place, c, pieces)
				is(t, e, api.OK)
				c, looked, steps = next, looked+h.Blocks, steps+1
				if _, ok := r.s.Tank().Lacks(top, place); ok == c.Done {
					t.Error("lacks", c)
				}
				if !c.Done {
					r.p.Up(nil)
					r.again(t, r.d)
				}
			}
			here := map[int]bool{}
			for o := range 113 {
				for _, p := range r.s.Blocks(o) {
					if p.Top == top {
						here[p.At] = true
					}
				}
			}
			if looked != len(here) {
				t.Error("looked at", looked, "of", len(here))
			}
			r.p.Up(nil)
			for i := range r.d { // now any other one of this top may be lost
				if x := []int{0, 0, 1, 1, 1, 2, 2, 2}[i]; i == bad || x != top {
					continue
				}
				var left []*disk.Disk
				for k, d := range r.d {
					if k != i {
						left = append(left, d)
					}
				}
				r.again(t, left)
				if b, e := r.s.LogRead(5, 3); string(b) != "log" || e != api.OK || !bytes.Equal(r.content(t), want) || r.s.Note() != 9 {
					t.Error(bad, i, e)
				}
				r.again(t, r.d)
			}
		}
	}
}

func TestResilverEnds(t *testing.T) {
	r := fresh(t, api.Top{Kind: api.Mirror, Leaves: 2, Sectors: 4096})
	r.fill(t)
	r.d[0].Replace()
	is(t, r.s.Tank().Replace(0, 0, r.d[0], 2), api.OK) // of the groups 1 and 2 alone
	_, h, e := heal.Resilver(r.s, 0, 0, api.Cursor{}, 0)
	if h != (api.Healed{}) || e != api.OK {
		t.Error(h, e)
	}
	if _, ok := r.s.Tank().Lacks(0, 0); !ok {
		t.Error("whole")
	}
	few := 0
	for _, p := range r.s.Blocks(1) {
		if p.Birth <= 2 {
			few++
		}
	}
	if c, h, e := heal.Resilver(r.s, 0, 0, api.Cursor{}, 999); !c.Done || h.Blocks != few || h.Copies != few || e != api.OK {
		t.Error(c, h, e, few)
	}
	r.s.Tank().Replace(0, 0, r.d[0], 2)
	if c, h, e := heal.Resilver(r.s, 0, 0, api.Cursor{Done: true}, 5); c != (api.Cursor{Done: true}) || h != (api.Healed{}) || e != api.OK {
		t.Error(c, h, e)
	}
	if _, ok := r.s.Tank().Lacks(0, 0); ok {
		t.Error("not whole")
	}
}

// sorted are a store's blocks by their places, each once.
func sorted(s *store.Store) []api.Ptr {
	var l []api.Ptr
	for o := range 113 {
		l = append(l, s.Blocks(o)...)
	}
	slices.SortFunc(l, func(x, y api.Ptr) int { return (x.Top-y.Top)<<20 + x.At - y.At })
	return slices.CompactFunc(l, func(x, y api.Ptr) bool { return x.Top == y.Top && x.At == y.At })
}

// TestCursor goes block by block, with the last object among them.
func TestCursor(t *testing.T) {
	r := fresh(t, m2, p3)
	r.fill(t)
	r.s.Write(112, 0, []byte("last"))
	r.s.Commit(10)
	all := sorted(r.s)
	c := api.Cursor{}
	for i, p := range all {
		next, h, e := heal.Scrub(r.s, c, 1)
		want := api.Cursor{Top: p.Top, At: p.At + 1}
		if i == len(all)-1 {
			want = api.Cursor{Done: true}
		}
		if next != want || h != (api.Healed{Blocks: 1}) || e != api.OK {
			t.Fatal(i, next, want, h, e)
		}
		if _, h, _ := heal.Scrub(r.s, api.Cursor{Top: p.Top, At: p.At}, 999); h.Blocks != len(all)-i {
			t.Fatal(i, h)
		}
		c = next
	}
}

// TestLacked resilvers a leaf that lacks one group alone.
func TestLacked(t *testing.T) {
	r := fresh(t, api.Top{Kind: api.Mirror, Leaves: 2, Sectors: 4096})
	r.fill(t)
	r.d[0].Fail()
	r.s.Write(3, 0, []byte("new"))
	is(t, r.s.Commit(10), api.OK)
	lacks, ok := r.s.Tank().Lacks(0, 0)
	if !ok || lacks.From != r.s.Txg() || lacks.To != r.s.Txg() {
		t.Fatal(lacks)
	}
	want := 0
	for _, p := range sorted(r.s) {
		if p.Birth == r.s.Txg() {
			want++
		}
	}
	c, h, e := heal.Resilver(r.s, 0, 0, api.Cursor{}, 999)
	if !c.Done || h != (api.Healed{Blocks: want}) || e != api.OK {
		t.Error(c, h, e, want)
	}
}

// TestDown lets the power go out at each write of a resilvering.
func TestDown(t *testing.T) {
	r := fresh(t, api.Top{Kind: api.Mirror, Leaves: 2, Sectors: 4096})
	r.fill(t)
	want := r.content(t)
	r.d[0].Replace()
	is(t, r.s.Tank().Replace(0, 0, r.d[0], r.s.Txg()), api.OK)
	downs := 0
	for cut := 0; ; cut += 1 + cut/40 {
		r.p.Cut(cut)
		c, h, e := heal.Resilver(r.s, 0, 0, api.Cursor{}, 9999)
		r.p.Cut(-1)
		if e == api.OK {
			if !c.Done {
				t.Error(c)
			}
			break
		}
		downs++
		if e != api.ErrDown || c != (api.Cursor{}) || h != (api.Healed{}) || r.p.On() {
			t.Fatal(cut, c, h, e)
		}
		r.p.Up(nil)
		r.d[0].Replace()
		r.again(t, r.d)
		is(t, r.s.Tank().Replace(0, 0, r.d[0], r.s.Txg()), api.OK)
	}
	if downs < 20 {
		t.Error(downs)
	}
	r.p.Up(nil)
	r.again(t, r.d[:1])
	if !bytes.Equal(r.content(t), want) {
		t.Error("not the same")
	}
}
