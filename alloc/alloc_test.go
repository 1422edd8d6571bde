package alloc_test

import (
	"math"
	"math/rand"
	"slices"
	"testing"

	"undercroft/alloc"
	"undercroft/api"
)

func at(top, at, many int) api.Place {
	return api.Place{Top: top, Span: api.Span{At: at, Many: many}}
}

func is(t *testing.T, got, want api.Errno) {
	t.Helper()
	if got != want {
		t.Errorf("%d, not %d", got, want)
	}
}

func TestExamples(t *testing.T) {
	a, e := alloc.New([]int{10, 20}, nil)
	is(t, e, api.OK)
	if p, e := a.Take([]int{3, 3}); p != at(1, 0, 3) || e != api.OK {
		t.Error(p, e)
	}
	if p, e := a.Take([]int{0, 18}); p != (api.Place{}) || e != api.ErrNoSpace {
		t.Error(p, e)
	}
	is(t, a.Free(at(1, 0, 3), 5), api.OK)
	if a.Room(1) != 17 || a.Waiting() != 3 || !slices.Equal(a.Taken(), []api.Place{at(1, 0, 3)}) {
		t.Error(a.Room(1), a.Waiting(), a.Taken())
	}
	a.Sync(6)
	if a.Room(1) != 17 {
		t.Error(a.Room(1))
	}
	a.Sync(7)
	if a.Room(1) != 20 || a.Waiting() != 0 || len(a.Taken()) != 0 {
		t.Error(a.Room(1))
	}
	is(t, a.Free(at(0, 0, 1), 1), api.ErrAllocFree)
	for _, need := range [][]int{{0, 0}, {1}, {1, 1, 1}, {1, -1}, nil} {
		if p, e := a.Take(need); p != (api.Place{}) || e != api.ErrArg {
			t.Error(need, e)
		}
	}
}

func TestNew(t *testing.T) {
	for i, c := range []struct {
		sizes []int
		taken []api.Place
		e     api.Errno
	}{
		{nil, nil, 1}, {[]int{1, 1, 1, 1, 1}, nil, 1}, {[]int{1, 0, 1, 1}, []api.Place{at(3, 0, 1)}, 0}, {[]int{-1}, nil, 1}, {[]int{40961}, nil, 1}, {[]int{40960, 0}, nil, 0},
		{[]int{9}, []api.Place{at(1, 0, 1)}, 1}, {[]int{9}, []api.Place{at(-1, 0, 1)}, 1}, {[]int{9}, []api.Place{at(0, 8, 2)}, 1}, {[]int{9}, []api.Place{at(0, 0, 0)}, 1}, {[]int{9}, []api.Place{at(0, -1, 2)}, 1},
		{[]int{9}, []api.Place{at(0, math.MaxInt, math.MaxInt)}, 1}, {[]int{9}, []api.Place{at(0, 5, 2), at(0, 1, 1), at(0, 6, 1)}, 1}, {[]int{9}, []api.Place{at(0, 1, 1), at(0, 1, 1)}, 1}, {[]int{9, 9}, []api.Place{at(1, 5, 4), at(0, 1, 1), at(0, 2, 3), at(1, 1, 1)}, 0},
	} {
		a, e := alloc.New(c.sizes, c.taken)
		if e != c.e || (a == nil) != (e != api.OK) {
			t.Error(i, e)
		}
		if i == 14 && !slices.Equal(a.Taken(), []api.Place{at(0, 1, 4), at(1, 1, 1), at(1, 5, 4)}) {
			t.Error(a.Taken())
		}
	}
	var every []api.Place // each second sector first: on the way there would be too many pieces
	for i := range 20000 {
		every = append(every, at(0, 2*i, 1))
	}
	for i := range 20000 {
		every = append(every, at(0, 2*i+1, 1))
	}
	if a, e := alloc.New([]int{40960}, every); e != api.OK || a.Room(0) != 960 || len(a.Taken()) != 1 {
		t.Error(e)
	}
}

func TestTake(t *testing.T) {
	a, _ := alloc.New([]int{10, 10, 0}, []api.Place{at(0, 2, 2), at(1, 1, 2)})
	for _, c := range []struct {
		need []int
		p    api.Place
		e    api.Errno
	}{{[]int{3, 3, 3}, at(0, 4, 3), 0}, {[]int{1, 0, 0}, at(0, 0, 1), 0}, {[]int{9, 4, 1}, at(1, 3, 4), 0}, {[]int{3, 4, 1}, at(0, 7, 3), 0}, {[]int{2, 0, 5}, api.Place{}, 3}, {[]int{math.MaxInt, math.MaxInt, 0}, api.Place{}, 3}, {[]int{1, 1, 0}, at(1, 0, 1), 0}} {
		if p, e := a.Take(c.need); p != c.p || e != c.e {
			t.Error(c.need, p, e)
		}
	}
	if a.Room(3) != 0 || a.Room(-1) != 0 || a.Room(2) != 0 {
		t.Error("room of no top")
	}
}

func TestFree(t *testing.T) {
	a, _ := alloc.New([]int{20}, []api.Place{at(0, 0, 10)})
	for _, p := range []api.Place{at(1, 0, 1), at(-1, 0, 1), at(0, 9, 2), at(0, 0, 0), at(0, -1, 2), at(0, 0, -1), at(0, math.MaxInt, 1), at(0, 1, math.MaxInt)} {
		is(t, a.Free(p, 1), api.ErrAllocFree)
		is(t, a.Undo(p), api.ErrAllocFree)
	}
	is(t, a.Free(at(0, 2, 3), math.MaxUint64), api.OK)
	is(t, a.Free(at(0, 4, 2), 1), api.ErrAllocFree)
	is(t, a.Undo(at(0, 4, 2)), api.ErrAllocFree)
	is(t, a.Free(at(0, 5, 2), 0), api.OK)
	is(t, a.Free(at(0, 7, 1), math.MaxUint64-2), api.OK)
	is(t, a.Undo(at(0, 8, 1)), api.OK)
	is(t, a.Undo(at(0, 8, 1)), api.ErrAllocFree)
	a.Sync(0)
	a.Sync(1)
	if a.Waiting() != 6 || a.Room(0) != 11 {
		t.Error(a.Waiting(), a.Room(0))
	}
	a.Sync(2)
	if a.Waiting() != 4 || a.Room(0) != 13 {
		t.Error(a.Waiting(), a.Room(0))
	}
	a.Sync(math.MaxUint64)
	if a.Waiting() != 3 || !slices.Equal(a.Taken(), []api.Place{at(0, 0, 5), at(0, 9, 1)}) {
		t.Error(a.Waiting(), a.Taken())
	}
}

// TestNoneTwice gives room out and lets it go: nothing is given out that was not free for two groups.
func TestNoneTwice(t *testing.T) {
	r := rand.New(rand.NewSource(6))
	a, _ := alloc.New([]int{60, 40}, nil)
	var state [2][60]uint64 // 0 free, 1 taken, else group + 2
	var mine []api.Place
	txg := uint64(10)
	for range 20000 {
		switch r.Intn(5) {
		case 0, 1:
			p, e := a.Take([]int{1 + r.Intn(4), 1 + r.Intn(4)})
			if e != api.OK {
				continue
			}
			for i := range p.Span.Many {
				if s := &state[p.Top][p.Span.At+i]; *s == 1 || *s > 1 && *s > txg-2+2 {
					t.Fatal(p, *s, txg)
				} else {
					*s = 1
				}
			}
			mine = append(mine, p)
		case 2, 3:
			if len(mine) > 0 {
				i := r.Intn(len(mine))
				p := mine[i]
				mine = slices.Delete(mine, i, i+1)
				is(t, a.Free(p, txg+1), api.OK)
				for i := range p.Span.Many {
					state[p.Top][p.Span.At+i] = txg + 1 + 2
				}
			}
		case 4:
			txg++
			a.Sync(txg)
		}
		waiting, room := 0, 0
		for top := range 2 {
			for i := range 60 - 20*top {
				if s := state[top][i]; s > txg {
					waiting++
				} else if s != 1 {
					room++
				}
			}
		}
		if a.Waiting() != waiting || a.Room(0)+a.Room(1) != room {
			t.Fatal(a.Waiting(), waiting, a.Room(0), a.Room(1), room)
		}
	}
}
