package ranges_test

import (
	"math"
	"math/rand"
	"reflect"
	"slices"
	"testing"

	"undercroft/api"
	"undercroft/ranges"
)

type sp = api.Span

func is(t *testing.T, got, want api.Errno) {
	t.Helper()
	if got != want {
		t.Errorf("%d, not %d", got, want)
	}
}

func all(t *testing.T, s *ranges.Set, want ...sp) {
	t.Helper()
	if got := s.All(); !slices.Equal(got, want) {
		t.Errorf("%v, not %v", got, want)
	}
}

func TestExamples(t *testing.T) {
	s := ranges.New()
	all(t, s)
	is(t, s.Add(sp{At: 4, Many: 2}), api.OK)
	is(t, s.Add(sp{At: 6, Many: 1}), api.OK)
	all(t, s, sp{At: 4, Many: 3})
	is(t, s.Add(sp{At: 5, Many: 9}), api.ErrRange)
	is(t, s.Remove(sp{At: 5, Many: 1}), api.OK)
	all(t, s, sp{At: 4, Many: 1}, sp{At: 6, Many: 1})
	if s.Many() != 2 {
		t.Error(s.Many())
	}
	if n, ok := s.Find(1, 5); n != 6 || !ok {
		t.Error(n, ok)
	}
	if n, ok := s.Find(2, 0); n != 0 || ok {
		t.Error(n, ok)
	}
	if !s.Has(sp{At: 4, Many: 1}) || s.Has(sp{At: 4, Many: 2}) || !s.Meets(sp{At: 4, Many: 2}) || s.Meets(sp{At: 7, Many: 1}) {
		t.Error("Has, Meets")
	}
}

func TestMayBe(t *testing.T) {
	s := ranges.New()
	is(t, s.Add(sp{At: api.MaxRange - 1, Many: 1}), api.OK)
	is(t, s.Add(sp{At: 0, Many: 5}), api.OK)
	for _, x := range []sp{{At: -1, Many: 2}, {At: 0, Many: 0}, {At: 1, Many: -1}, {At: 1, Many: api.MaxRange}, {At: api.MaxRange, Many: 1}, {At: math.MaxInt, Many: math.MaxInt}, {At: 1, Many: math.MaxInt}, {At: math.MaxInt, Many: 1}, {At: math.MinInt, Many: math.MinInt}} {
		if s.Has(x) || s.Meets(x) {
			t.Error(x)
		}
		is(t, s.Add(x), api.ErrRange)
		is(t, s.Remove(x), api.ErrRange)
	}
	is(t, s.Remove(sp{At: 0, Many: 6}), api.ErrRange)
	for _, c := range [][2]int{{0, 0}, {-1, 0}, {1, -1}, {math.MaxInt, 0}, {6, 0}, {1, math.MaxInt}} {
		if n, ok := s.Find(c[0], c[1]); n != 0 || ok {
			t.Error(c, n)
		}
	}
	x := ranges.New()
	is(t, x.Add(sp{At: 0, Many: api.MaxRange}), api.OK)
	if n, ok := x.Find(api.MaxRange, 0); n != 0 || !ok || x.Many() != api.MaxRange {
		t.Error(n, ok)
	}
}

func TestLong(t *testing.T) {
	s := ranges.New()
	for i := range api.MaxRanges {
		is(t, s.Add(sp{At: 3 * i, Many: 2}), api.OK)
	}
	before := s.All()
	is(t, s.Add(sp{At: 3 * api.MaxRanges, Many: 1}), api.ErrLong)
	is(t, s.Add(sp{At: 3 * api.MaxRanges, Many: 0}), api.ErrRange)
	if !reflect.DeepEqual(s.All(), before) {
		t.Error("changed")
	}
	is(t, s.Add(sp{At: 2, Many: 1}), api.OK)
	is(t, s.Remove(sp{At: 2, Many: 1}), api.OK)
	is(t, s.Remove(sp{At: 0, Many: 1}), api.OK)
	is(t, s.Remove(sp{At: 1, Many: 1}), api.OK)
	is(t, s.Add(sp{At: 3 * api.MaxRanges, Many: 3}), api.OK)
	is(t, s.Remove(sp{At: 3*api.MaxRanges + 1, Many: 1}), api.ErrLong)
	is(t, s.Remove(sp{At: 3*api.MaxRanges + 1, Many: 2}), api.OK)
}

func TestClone(t *testing.T) {
	s := ranges.New()
	s.Add(sp{At: 1, Many: 9})
	s.Add(sp{At: 20, Many: 9})
	c := s.Clone()
	c.Remove(sp{At: 3, Many: 1})
	s.Remove(sp{At: 20, Many: 9})
	l := s.All()
	_ = append(l[:0], sp{At: 7, Many: 7})
	all(t, s, sp{At: 1, Many: 9})
	all(t, c, sp{At: 1, Many: 2}, sp{At: 4, Many: 6}, sp{At: 20, Many: 9})
}

// TestModel holds sets against a plain list of numbers.
func TestModel(t *testing.T) {
	r := rand.New(rand.NewSource(4))
	s := ranges.New()
	var has [40]bool
	for range 20000 {
		x := sp{At: r.Intn(40), Many: 1 + r.Intn(6)}
		x.Many = min(x.Many, 40-x.At)
		any, every := false, true
		for i := x.At; i < x.At+x.Many; i++ {
			any, every = any || has[i], every && has[i]
		}
		if s.Has(x) != every || s.Meets(x) != any {
			t.Fatal(x)
		}
		set := r.Intn(2) == 0
		want := api.OK
		if set && any || !set && !every {
			want = api.ErrRange
		}
		if set {
			is(t, s.Add(x), want)
		} else {
			is(t, s.Remove(x), want)
		}
		if want == api.OK {
			for i := x.At; i < x.At+x.Many; i++ {
				has[i] = set
			}
		}
		var l []sp
		many := 0
		for i := range has {
			if has[i] && (i == 0 || !has[i-1]) {
				l = append(l, sp{At: i})
			}
			if has[i] {
				l[len(l)-1].Many++
				many++
			}
		}
		all(t, s, l...)
		k, from := 1+r.Intn(5), r.Intn(40)
		at, ok := 0, false
		for i := from; i+k <= 40 && !ok; i++ {
			ok = true
			for j := range k {
				ok = ok && has[i+j]
			}
			if ok {
				at = i
			}
		}
		if n, got := s.Find(k, from); got != ok || n != at || s.Many() != many {
			t.Fatal(k, from, n, got)
		}
	}
}
