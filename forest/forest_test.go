package forest_test

import (
	"fmt"
	"math"
	"math/rand"
	"reflect"
	"slices"
	"strings"
	"testing"

	"undercroft/api"
	"undercroft/forest"
)

func is(t *testing.T, got, want api.Errno) {
	t.Helper()
	if got != want {
		t.Errorf("%d, not %d", got, want)
	}
}

func cell(o, at, n int) api.Cell {
	return api.Cell{Object: o, At: at, Data: []byte(strings.Repeat("x", n))}
}

func fresh(t *testing.T) *forest.Forest {
	t.Helper()
	f, e := forest.New("tank", 100000, 3)
	is(t, e, api.OK)
	return f
}

func used(t *testing.T, f *forest.Forest, name string, own, all int) {
	t.Helper()
	if a, b, e := f.Used(name); a != own || b != all || e != api.OK {
		t.Errorf("%s: %d %d %d, not %d %d", name, a, b, e, own, all)
	}
}

const guid = 3 << 20

func TestExamples(t *testing.T) {
	f := fresh(t)
	is(t, f.Create("tank/a", api.Filesystem, []api.Cell{cell(1, -1, 1), cell(1, 0, 10)}), api.OK)
	used(t, f, "tank/a", 75, 75)
	used(t, f, "tank", 0, 75)
	is(t, f.Snapshot("tank", "s", true), api.OK)
	g := f.State()
	if g.Last != 2 || g.Clock != 2 || f.Clock() != 2 || g.Datasets[0].Snaps[0].Guid != guid+1 || g.Datasets[1].Snaps[0].Guid != guid+2 || g.Datasets[1].Snaps[0].Birth != 2 {
		t.Error(g)
	}
	is(t, f.Change("tank/a", []api.Cell{cell(1, -1, 1)}), api.OK)
	used(t, f, "tank/a", 75, 75)
	if l, e := f.Dead("tank/a", "s"); e != api.OK || len(l) != 1 || l[0].At != 0 || l[0].Birth != 1 {
		t.Error(l, e)
	}
	if n, e := f.Unique("tank/a", "s"); n != 42 || e != api.OK {
		t.Error(n, e)
	}
	is(t, f.Clone("tank/a", "s", "tank/b"), api.OK)
	used(t, f, "tank/b", 0, 0)
	is(t, f.Release("tank/a", "s"), api.ErrBusy)
	is(t, f.Promote("tank/b"), api.OK)
	used(t, f, "tank/b", 75, 75)
	used(t, f, "tank/a", 0, 0)
	is(t, f.Release("tank/a", "s"), api.ErrNone)
	is(t, f.Set("tank", "zip", "on"), api.OK)
	if v, at, e := f.Get("tank/b", "zip"); v != "on" || at != "tank" || e != api.OK {
		t.Error(v, at, e)
	}
	is(t, f.Quota("tank", 74), api.ErrQuota)
	is(t, f.Destroy("tank"), api.ErrArg)
}

func TestNew(t *testing.T) {
	for i, c := range []struct {
		name       string
		room, seed int
		e          api.Errno
	}{
		{"tank", 0, 0, 0}, {"9._-", 1 << 40, 1<<20 - 1, 0}, {strings.Repeat("a", 24), 1, 1, 0}, {strings.Repeat("a", 25), 1, 1, 170}, {"", 1, 1, 170}, {"a/b", 1, 1, 170}, {"A", 1, 1, 170}, {"-a", 1, 1, 170}, {".a", 1, 1, 170}, {"a b", -1, 1, 170},
		{"a", -1, 1, 1}, {"a", 1<<40 + 1, 1, 1}, {"a", 1, -1, 1}, {"a", 1, 1 << 20, 1},
	} {
		f, e := forest.New(c.name, c.room, c.seed)
		if e != c.e || (f == nil) != (e != api.OK) {
			t.Error(i, e)
		}
		if f != nil && !reflect.DeepEqual(f.State(), api.Grove{Room: c.room, Seed: c.seed, Datasets: []api.Dataset{{Name: c.name, Kind: 1}}}) {
			t.Error(i, f.State())
		}
	}
}

func TestCreate(t *testing.T) {
	f := fresh(t)
	is(t, f.Create("tank/v", api.Volume, nil), api.OK)
	long := "tank" + strings.Repeat("/"+strings.Repeat("a", 24), 9)
	many := make([]api.Cell, 241)
	for i := range many {
		many[i] = cell(i+1, 0, 1)
	}
	for i, c := range []struct {
		name string
		kind int
		l    []api.Cell
		e    api.Errno
	}{
		{"tank/", 1, nil, 170}, {"/tank", 1, nil, 170}, {"tank//a", 1, nil, 170}, {"", 9, nil, 170}, {"tank/A", 9, nil, 170}, {long, 1, nil, 170}, {"tank/a/a/a/a/a/a/a/a", 1, nil, 170},
		{"tank/a", 0, nil, 1}, {"tank/a", 3, nil, 1}, {"tank", 1, many, 1}, {"tank/a", 1, []api.Cell{cell(0, 0, 1)}, 1}, {"tank/a", 1, []api.Cell{cell(1<<20+1, 0, 1)}, 1}, {"tank/a", 1, []api.Cell{cell(1, -2, 1)}, 1}, {"tank/a", 1, []api.Cell{cell(1, 256, 1)}, 1},
		{"tank/a", 1, []api.Cell{cell(1, 0, 0)}, 1}, {"tank/a", 1, []api.Cell{cell(1, 0, 257)}, 1}, {"tank/a", 1, []api.Cell{cell(1, 0, 1), cell(1, 0, 1)}, 1}, {"tank/a", 1, []api.Cell{cell(2, 0, 1), cell(1, 0, 1)}, 1},
		{"tank", 1, nil, 172}, {"tank/v", 1, nil, 172}, {"tank/v/x", 1, nil, 175}, {"tank/b/x", 1, nil, 171}, {"other", 1, nil, 171}, {"tank/a", 1, many[:240], 0},
	} {
		before := f.State()
		if e := f.Create(c.name, c.kind, c.l); e != c.e {
			t.Error(i, e)
		}
		if c.e != api.OK && !reflect.DeepEqual(f.State(), before) {
			t.Error(i, "changed")
		}
	}
	in := []api.Cell{{Object: 1 << 20, At: 255, Birth: 77, Data: []byte("ab")}}
	is(t, f.Create("tank/c", 1, in), api.OK)
	in[0].Data[0] = 'x'
	got, _ := f.Content("tank/c", "")
	if got[0].Birth != 3 || string(got[0].Data) != "ab" {
		t.Error(got)
	}
	got[0].Data[0] = 'y'
	st := f.State()
	st.Datasets[2].Cells[0].Data[1] = 'z'
	if got, _ := f.Content("tank/c", ""); string(got[0].Data) != "ab" {
		t.Error("shared")
	}
	for i := len(f.State().Datasets); i < 24; i++ {
		is(t, f.Create(fmt.Sprintf("tank/n%d", i), 1, nil), api.OK)
	}
	is(t, f.Create("tank/more", 1, nil), api.ErrMany)
	is(t, f.Create("tank/v/more", 1, nil), api.ErrKind)
	is(t, f.Rename("tank/c", "tank/d"), api.OK)
}

func TestDestroyRename(t *testing.T) {
	f := fresh(t)
	for _, n := range []string{"tank/a", "tank/a/b", "tank/a-c", "tank/d"} {
		is(t, f.Create(n, api.Filesystem, nil), api.OK)
	}
	is(t, f.Create("tank/v", api.Volume, nil), api.OK)
	f.Snapshot("tank/d", "s", false)
	for _, c := range []struct {
		name string
		e    api.Errno
	}{{"none", 171}, {"tank", 1}, {"tank/a", 174}, {"tank/d", 174}, {"tank/a-c", 0}, {"tank/a-c", 171}} {
		is(t, f.Destroy(c.name), c.e)
	}
	part := strings.Repeat("y", 24)
	for i, c := range []struct {
		name, to string
		e        api.Errno
	}{
		{"none", "tank/x", 171}, {"tank", "tank/x", 1}, {"tank/a", "tank/a", 1}, {"tank/a", "tank/a/!", 1}, {"tank/a", "tank/a/b", 1}, {"tank/a", "tank/!", 170}, {"tank/a", "tank/q/q/q/q/q/q/q", 170}, {"tank/a/b", "tank/q/q/q/q/q/q/q", 171},
		{"tank/a", "tank", 172}, {"tank/a", "tank/d", 172}, {"tank/a", "tank/x/y", 171}, {"tank/a", "x", 171}, {"tank/a", "tank/v/x", 175}, {"tank/a", "tank/" + part, 0}, {"tank/d", "tank/" + part + "/b/d", 0},
	} {
		if e := f.Rename(c.name, c.to); e != c.e {
			t.Error(i, e)
		}
	}
	var names []string
	for _, d := range f.State().Datasets {
		names = append(names, d.Name)
	}
	if !slices.Equal(names, []string{"tank", "tank/v", "tank/" + part, "tank/" + part + "/b", "tank/" + part + "/b/d"}) {
		t.Error(names)
	}
	if n := len(f.State().Datasets[4].Snaps); n != 1 {
		t.Error(n)
	}
}

func TestChange(t *testing.T) {
	f, _ := forest.New("tank", 66, 0)
	is(t, f.Change("x", []api.Cell{cell(0, 0, 1)}), api.ErrNone)
	for _, l := range [][]api.Cell{{cell(0, 0, 1)}, {cell(1, 0, 0)}, {cell(1, 1, 1), cell(1, 0, 1)}} {
		is(t, f.Change("tank", l), api.ErrArg)
	}
	is(t, f.Change("tank", []api.Cell{cell(1, 0, 1), cell(1, 1, 1)}), api.OK) // just the room
	is(t, f.Change("tank", []api.Cell{cell(1, 0, 1), cell(1, 1, 2)}), api.ErrNoSpace)
	is(t, f.Change("tank", []api.Cell{cell(1, 1, 1), cell(2, 0, 1)}), api.OK)
	if l, _ := f.Content("tank", ""); len(l) != 2 || l[0].Birth != 1 || l[1].Birth != 2 {
		t.Error(l)
	}
}

func TestSnapshots(t *testing.T) {
	f := fresh(t)
	f.Create("tank/a", 1, []api.Cell{cell(1, 0, 1)})
	f.Create("tank/a/b", 1, nil)
	is(t, f.Snapshot("none", "!", false), api.ErrNone)
	is(t, f.Snapshot("tank", "!", false), api.ErrName)
	is(t, f.Snapshot("tank", "", false), api.ErrName)
	is(t, f.Snapshot("tank/a/b", "s", false), api.OK)
	is(t, f.Snapshot("tank/a", "s", true), api.ErrExists)
	is(t, f.Snapshot("tank/a", "s", false), api.OK)
	if l, e := f.Content("tank/a", "t"); len(l) != 0 || e != api.ErrNone {
		t.Error(e)
	}
	if _, e := f.Content("none", ""); e != api.ErrNone {
		t.Error(e)
	}
	f.Change("tank/a", []api.Cell{cell(1, 0, 1), cell(1, 1, 1)})
	is(t, f.Snapshot("tank/a", "t", false), api.OK)
	is(t, f.Rollback("tank/a", "s"), api.ErrLater)
	is(t, f.Rollback("tank/a", "x"), api.ErrNone)
	is(t, f.Rollback("x", "s"), api.ErrNone)
	f.Change("tank/a", nil)
	is(t, f.Rollback("tank/a", "t"), api.OK)
	if l, _ := f.Content("tank/a", ""); len(l) != 2 || l[0].Birth != 1 || l[1].Birth != 5 {
		t.Error(l)
	}
	is(t, f.Release("tank/a", "x"), api.ErrNone)
	is(t, f.Release("tank/a", "t"), api.OK)
	is(t, f.Release("x", "t"), api.ErrNone)
	for i := range 11 {
		is(t, f.Snapshot("tank/a", fmt.Sprint("n", i), false), api.OK)
	}
	is(t, f.Snapshot("tank/a", "n1", false), api.ErrExists)
	is(t, f.Snapshot("tank/a", "more", false), api.ErrMany)
	is(t, f.Snapshot("tank", "more", true), api.ErrMany)
	g := f.State()
	g.Last = 1<<20 - 2
	f, e := forest.Load(g)
	is(t, e, api.OK)
	is(t, f.Snapshot("tank", "y", true), api.ErrMany)
	is(t, f.Snapshot("tank", "y", false), api.OK)
	is(t, f.Snapshot("tank", "z", false), api.ErrMany)
	is(t, f.Snapshot("tank", "y", false), api.ErrExists)
	if s := f.State().Datasets[0].Snaps; len(s) != 1 || s[0].Guid != 3<<20+1<<20-1 {
		t.Error(s)
	}
}

func TestClonePromote(t *testing.T) {
	f := fresh(t)
	f.Create("tank/v", api.Volume, []api.Cell{cell(1, 0, 4)})
	for _, s := range []string{"s", "t", "u"} {
		f.Snapshot("tank/v", s, false)
	}
	for i, c := range []struct {
		name, snap, to string
		e              api.Errno
	}{{"none", "s", "!", 171}, {"tank/v", "x", "!", 171}, {"tank/v", "s", "!", 170}, {"tank/v", "s", "tank", 172}, {"tank/v", "s", "tank/x/y", 171}, {"tank/v", "s", "tank/v/y", 175}, {"tank/v", "t", "tank/c", 0}, {"tank/v", "s", "tank/b", 0}} {
		if e := f.Clone(c.name, c.snap, c.to); e != c.e {
			t.Error(i, e)
		}
	}
	is(t, f.Promote("tank/v"), api.ErrOrigin)
	is(t, f.Promote("x"), api.ErrNone)
	f.Snapshot("tank/c", "t", false)
	is(t, f.Promote("tank/c"), api.ErrExists)
	f.Release("tank/c", "t")
	f.Snapshot("tank/c", "own", false)
	is(t, f.Promote("tank/c"), api.OK)
	g := f.State()
	at := map[string]api.Dataset{}
	for _, d := range g.Datasets {
		at[d.Name] = d
	}
	names := func(d api.Dataset) (s string) {
		for _, x := range d.Snaps {
			s += x.Name + " "
		}
		return s
	}
	if names(at["tank/c"]) != "s t own " || names(at["tank/v"]) != "u " || at["tank/c"].Origin != 0 || at["tank/v"].Origin != guid+2 || at["tank/b"].Origin != guid+1 || at["tank/b"].Kind != api.Volume {
		t.Error(g)
	}
	is(t, f.Promote("tank/b"), api.OK)
	if g := f.State(); names(g.Datasets[1]) != "s " || g.Datasets[1].Origin != 0 || g.Datasets[2].Origin != guid+1 {
		t.Error(g)
	}
	is(t, f.Promote("tank/v"), api.OK)
	is(t, f.Promote("tank/v"), api.OK)
	is(t, f.Promote("tank/v"), api.ErrOrigin)
	f = fresh(t)
	f.Create("tank/a", 1, nil)
	for i := range 12 {
		f.Snapshot("tank/a", fmt.Sprint("n", i), false)
	}
	f.Clone("tank/a", "n11", "tank/b")
	f.Clone("tank/a", "n10", "tank/c")
	f.Snapshot("tank/b", "x", false)
	f.Snapshot("tank/c", "x", false)
	is(t, f.Promote("tank/b"), api.ErrMany)
	is(t, f.Promote("tank/c"), api.OK)
}

func TestMarksProps(t *testing.T) {
	f := fresh(t)
	f.Create("tank/a", 1, nil)
	f.Snapshot("tank/a", "s", false)
	for _, c := range []struct {
		name, snap, mark string
		e                api.Errno
	}{{"x", "s", "!", 171}, {"tank/a", "x", "!", 171}, {"tank/a", "s", "!", 170}, {"tank/a", "s", "m", 0}, {"tank/a", "s", "m", 172}, {"tank/a", "s", "a", 0}} {
		is(t, f.Bookmark(c.name, c.snap, c.mark), c.e)
	}
	f.Release("tank/a", "s")
	if m := f.State().Datasets[1].Marks; !slices.Equal(m, []api.Mark{{Name: "a", Guid: guid + 1, Birth: 2}, {Name: "m", Guid: guid + 1, Birth: 2}}) {
		t.Error(m)
	}
	is(t, f.Forget("tank/a", "x"), api.ErrNone)
	is(t, f.Forget("x", "m"), api.ErrNone)
	is(t, f.Forget("tank/a", "a"), api.OK)
	f.Snapshot("tank/a", "s", false)
	for i := range 11 {
		is(t, f.Bookmark("tank/a", "s", fmt.Sprint(i)), api.OK)
	}
	is(t, f.Bookmark("tank/a", "s", "more"), api.ErrMany)
	is(t, f.Bookmark("tank/a", "s", "m"), api.ErrExists)
	v64 := strings.Repeat("v", 64)
	for i, c := range []struct {
		name, prop, value string
		e                 api.Errno
	}{{"x", "!", "", 171}, {"tank", "!", v64 + "v", 170}, {"tank", "p", v64 + "\x00", 2}, {"tank", "p", "\x1f", 1}, {"tank", "p", "\x7f", 1}, {"tank", "p", "", 171}, {"tank", "p", v64, 0}, {"tank", "p", " ~", 0}, {"tank/a", "q", "1", 0}, {"tank/a", "p", "", 171}} {
		if e := f.Set(c.name, c.prop, c.value); e != c.e {
			t.Error(i, e)
		}
	}
	for _, c := range []struct {
		name, prop, v, at string
		e                 api.Errno
	}{{"tank/a", "p", " ~", "tank", 0}, {"tank/a", "q", "1", "tank/a", 0}, {"tank", "q", "", "", 171}, {"tank/b", "p", "", "", 171}, {"tank", "!", "", "", 171}} {
		if v, at, e := f.Get(c.name, c.prop); v != c.v || at != c.at || e != c.e {
			t.Error(c, v, at, e)
		}
	}
	for i := range 11 {
		is(t, f.Set("tank", fmt.Sprint(i), "x"), api.OK)
	}
	is(t, f.Set("tank", "more", "x"), api.ErrMany)
	is(t, f.Set("tank", "p", "x"), api.OK)
	is(t, f.Set("tank", "p", ""), api.OK)
	is(t, f.Set("tank", "more", "x"), api.OK)
	if p := f.State().Datasets[0].Props; len(p) != 12 || !slices.IsSortedFunc(p, func(a, b api.Prop) int { return strings.Compare(a.Name, b.Name) }) {
		t.Error(p)
	}
}

func TestRoom(t *testing.T) {
	f, _ := forest.New("tank", 1000, 0)
	f.Create("tank/a", 1, nil)
	f.Create("tank/a/b", 1, nil)
	for _, c := range []struct {
		name string
		room int
		e    api.Errno
	}{{"x", -1, 171}, {"tank", -1, 1}, {"tank", 1<<40 + 1, 1}, {"tank", 1 << 40, 0}, {"tank", 0, 0}} {
		is(t, f.Quota(c.name, c.room), c.e)
	}
	is(t, f.Reserve("x", -1), api.ErrNone)
	is(t, f.Reserve("tank", 1<<40+1), api.ErrArg)
	is(t, f.Reserve("tank/a/b", 1001), api.ErrNoSpace)
	is(t, f.Reserve("tank/a/b", 300), api.OK)
	is(t, f.Reserve("tank", 1<<40), api.OK)
	used(t, f, "tank/a/b", 0, 0)
	used(t, f, "tank/a", 0, 300)
	used(t, f, "tank", 0, 300)
	is(t, f.Quota("tank/a", 299), api.ErrQuota)
	is(t, f.Quota("tank/a", 332), api.OK)
	is(t, f.Change("tank/a", []api.Cell{cell(1, 0, 1)}), api.ErrQuota)
	is(t, f.Change("tank/a/b", []api.Cell{cell(1, 0, 256), cell(1, 1, 12)}), api.OK) // 332
	used(t, f, "tank/a/b", 332, 332)
	is(t, f.Change("tank/a/b", []api.Cell{cell(1, 0, 256), cell(1, 1, 13)}), api.ErrQuota)
	for i := range 11 { // each content whole: four times the room
		is(t, f.Snapshot("tank/a/b", fmt.Sprint("s", i), false), api.OK)
	}
	is(t, f.Snapshot("tank/a/b", "more", false), api.ErrNoSpace)
	if _, _, e := f.Used("x"); e != api.ErrNone {
		t.Error(e)
	}
	f = fresh(t)
	for i := range 9 {
		f.Create(fmt.Sprint("tank/", i), 1, nil)
	}
	for i := range 11 {
		is(t, f.Snapshot("tank", fmt.Sprint(i), true), api.OK)
	}
	is(t, f.Snapshot("tank", "x", false), api.ErrMany)
	is(t, f.Create("tank/x", 1, nil), api.ErrMany)
}

func TestDeadUnique(t *testing.T) {
	f := fresh(t)
	put := func(n ...int) {
		var l []api.Cell
		for _, x := range n {
			l = append(l, cell(x, 0, x))
		}
		f.Change("tank/a", l)
	}
	f.Create("tank/a", 1, nil)
	put(1, 2, 3)
	f.Snapshot("tank/a", "s", false)
	put(2, 3, 4)
	f.Snapshot("tank/a", "t", false)
	put(3, 5)
	for _, c := range []struct {
		snap   string
		dead   []int
		unique int
	}{{"s", []int{1}, 33}, {"t", []int{2, 4}, 36}} {
		l, e := f.Dead("tank/a", c.snap)
		var got []int
		for _, x := range l {
			got = append(got, x.Object)
		}
		n, e2 := f.Unique("tank/a", c.snap)
		if !slices.Equal(got, c.dead) || n != c.unique || e != api.OK || e2 != api.OK {
			t.Error(c, got, n, e, e2)
		}
	}
	f.Clone("tank/a", "t", "tank/b")
	f.Snapshot("tank/b", "x", false)
	f.Change("tank/b", []api.Cell{cell(9, 0, 9)})
	if n, _ := f.Unique("tank/b", "x"); n != 0 {
		t.Error("the origin's cells", n)
	}
	for _, n := range []string{"x", "tank/a"} {
		if l, e := f.Dead(n, "x"); len(l) != 0 || e != api.ErrNone {
			t.Error(e)
		}
		if k, e := f.Unique(n, "x"); k != 0 || e != api.ErrNone {
			t.Error(e)
		}
	}
}

func TestLoad(t *testing.T) {
	f := fresh(t)
	f.Create("tank/a", 1, []api.Cell{cell(1, 0, 1)})
	f.Create("tank/v", 2, nil)
	f.Set("tank/a", "p", "x")
	f.Snapshot("tank/a", "s", false)
	f.Snapshot("tank/a", "t", false)
	f.Bookmark("tank/a", "s", "m")
	f.Clone("tank/a", "s", "tank/c")
	var thirteen []api.Prop
	for i := range 13 {
		thirteen = append(thirteen, api.Prop{Name: fmt.Sprintf("p%02d", i), Value: "x"})
	}
	if l, e := forest.Load(f.State()); e != api.OK || !reflect.DeepEqual(l.State(), f.State()) {
		t.Fatal(e)
	}
	for i, c := range []struct {
		do func(g *api.Grove)
		ok bool
	}{
		{func(g *api.Grove) { g.Room = -1 }, false}, {func(g *api.Grove) { g.Room = 1<<40 + 1 }, false}, {func(g *api.Grove) { g.Seed = 1 << 20 }, false}, {func(g *api.Grove) { g.Seed = -1 }, false},
		{func(g *api.Grove) { g.Clock = 1<<40 + 1 }, false}, {func(g *api.Grove) { g.Clock = 1 << 40 }, true}, {func(g *api.Grove) { g.Last = 1 << 20 }, false}, {func(g *api.Grove) { g.Last = -1 }, false}, {func(g *api.Grove) { g.Clock = 4 }, false},
		{func(g *api.Grove) { g.Last = 1 }, false}, // guid 2 is yet to be given
		{func(g *api.Grove) { g.Last = 1; g.Seed = 9 }, true},
		{func(g *api.Grove) { g.Datasets = nil }, false}, {func(g *api.Grove) { g.Datasets = slices.Repeat(g.Datasets, 9) }, false},
		{func(g *api.Grove) { slices.Reverse(g.Datasets) }, false}, {func(g *api.Grove) { g.Datasets = g.Datasets[1:] }, false}, {func(g *api.Grove) { g.Datasets[1].Name = "tank" }, false}, {func(g *api.Grove) { g.Datasets[1].Name = "tank/A" }, false},
		{func(g *api.Grove) { g.Datasets[3].Name = "tank/w/x" }, false}, {func(g *api.Grove) { g.Datasets[3].Name = "tank/c/x" }, true}, {func(g *api.Grove) { g.Datasets[3].Name = "x" }, false}, {func(g *api.Grove) { g.Datasets[0].Kind = 2 }, false},
		{func(g *api.Grove) { g.Datasets[3].Kind = 3 }, false}, {func(g *api.Grove) { g.Datasets[2].Kind = 2 }, false}, {func(g *api.Grove) { g.Datasets[0].Quota = -1 }, false}, {func(g *api.Grove) { g.Datasets[0].Reserve = 1<<40 + 1 }, false},
		{func(g *api.Grove) { g.Datasets[1].Props[0].Value = "" }, false}, {func(g *api.Grove) { g.Datasets[1].Props[0].Value = "\n" }, false}, {func(g *api.Grove) { g.Datasets[1].Props[0].Name = "P" }, false}, {func(g *api.Grove) { g.Datasets[1].Props = slices.Repeat(g.Datasets[1].Props, 2) }, false},
		{func(g *api.Grove) { g.Datasets[1].Marks[0].Name = "" }, false}, {func(g *api.Grove) { g.Datasets[1].Marks[0].Guid = 0 }, false}, {func(g *api.Grove) { g.Datasets[1].Marks[0].Guid = 1<<41 + 1 }, false}, {func(g *api.Grove) { g.Datasets[1].Marks[0].Guid = 1 << 41 }, true}, {func(g *api.Grove) { g.Datasets[1].Marks[0].Birth = 99 }, false},
		{func(g *api.Grove) { g.Datasets[1].Snaps[0].Name = "t" }, false}, {func(g *api.Grove) { g.Datasets[1].Snaps[0].Name = "T" }, false}, {func(g *api.Grove) { g.Datasets[1].Snaps[1].Guid = 0 }, false}, {func(g *api.Grove) { g.Datasets[1].Snaps[1].Guid = guid + 1 }, false}, {func(g *api.Grove) { g.Datasets[1].Snaps[1].Guid = guid + 3 }, false}, {func(g *api.Grove) { g.Datasets[1].Snaps[1].Guid = guid + 1<<20 }, true},
		{func(g *api.Grove) { g.Datasets[1].Snaps[1].Birth = -1 }, false}, {func(g *api.Grove) { g.Datasets[1].Snaps[1].Cells[0].Birth = 99 }, false}, {func(g *api.Grove) { g.Datasets[1].Cells[0].Birth = -1 }, false}, {func(g *api.Grove) { g.Datasets[1].Cells[0].Object = 0 }, false},
		{func(g *api.Grove) { g.Datasets[2].Origin = 5 }, false}, {func(g *api.Grove) { g.Datasets[3].Origin = guid + 1 }, false}, {func(g *api.Grove) { g.Datasets[1].Origin = guid + 1 }, false}, {func(g *api.Grove) { g.Datasets[2].Snaps = []api.Snap{{Name: "z", Guid: 7}}; g.Datasets[1].Origin = 7 }, false}, {func(g *api.Grove) { g.Datasets[2].Snaps = []api.Snap{{Name: "z", Guid: 7}}; g.Datasets[0].Origin = 7 }, true},
		{func(g *api.Grove) { g.Datasets[0].Name = "Tank" }, false}, {func(g *api.Grove) { g.Datasets = []api.Dataset{g.Datasets[0], {Name: "tank/x/y", Kind: 1}} }, false}, {func(g *api.Grove) { g.Datasets = []api.Dataset{{Name: "a/b", Kind: 1}} }, false}, {func(g *api.Grove) { g.Seed = 1<<20 - 1 }, true},
		{func(g *api.Grove) { *g = api.Grove{Datasets: []api.Dataset{{Name: "a", Kind: 2}}} }, true}, {func(g *api.Grove) { g.Datasets[0].Props = thirteen }, false}, {func(g *api.Grove) { g.Datasets[0].Props = thirteen[:12] }, true},
		{func(g *api.Grove) {
			for _, p := range thirteen {
				g.Datasets[0].Marks = append(g.Datasets[0].Marks, api.Mark{Name: p.Name, Guid: 1})
			}
		}, false},
		{func(g *api.Grove) {
			for i, p := range thirteen {
				g.Datasets[0].Snaps = append(g.Datasets[0].Snaps, api.Snap{Name: p.Name, Guid: i + 1})
			}
		}, false},
		{func(g *api.Grove) { g.Datasets[1].Quota = 32 }, false}, {func(g *api.Grove) { g.Datasets[1].Quota = 33 }, true}, {func(g *api.Grove) { g.Room = 32 }, false},
	} {
		g := f.State()
		c.do(&g)
		l, e := forest.Load(g)
		if c.ok && (e != api.OK || !reflect.DeepEqual(l.State(), g)) || !c.ok && (l != nil || e != api.ErrForest) {
			t.Error(i, e)
		}
	}
}

func TestGraft(t *testing.T) {
	base := func() *forest.Forest {
		f := fresh(t)
		f.Create("tank/a", 1, []api.Cell{cell(1, 0, 1)})
		f.Snapshot("tank/a", "s", false)
		f.Create("tank/v", 2, nil)
		return f
	}
	ok := api.Part{Name: "tank/n", Kind: 1, New: true, Snap: "z", Guid: 5, Props: []api.Prop{{Name: "p", Value: "1"}}, Cells: []api.Cell{cell(3, 0, 3)}}
	on := api.Part{Name: "tank/a", Kind: 1, Base: guid + 1, Snap: "z", Guid: 6, Cells: []api.Cell{cell(1, 0, 1), cell(2, 0, 2)}}
	many := make([]api.Prop, 13)
	for i := range many {
		many[i] = api.Prop{Name: fmt.Sprint(i), Value: "x"}
	}
	for i, c := range []struct {
		from api.Part
		do   func(p *api.Part)
		e    api.Errno
	}{
		{ok, func(p *api.Part) {}, 0}, {ok, func(p *api.Part) { p.Guid = 1 }, 0}, {ok, func(p *api.Part) { p.Guid = guid + 1 }, 172}, {ok, func(p *api.Part) { p.Name = "x/" }, 170}, {ok, func(p *api.Part) { p.Snap = ""; p.Kind = 0 }, 170}, {ok, func(p *api.Part) { p.Props = []api.Prop{{Name: "P"}} }, 170},
		{ok, func(p *api.Part) { p.Kind = 0 }, 1}, {ok, func(p *api.Part) { p.Cells = []api.Cell{cell(0, 0, 1)} }, 1}, {ok, func(p *api.Part) { p.Guid = 0 }, 1}, {ok, func(p *api.Part) { p.Guid = 1<<41 + 1 }, 1}, {ok, func(p *api.Part) { p.Guid = guid + 2 }, 1}, {ok, func(p *api.Part) { p.Guid = guid + 1<<20 - 1 }, 1}, {ok, func(p *api.Part) { p.Guid = guid + 1<<20 }, 0}, {ok, func(p *api.Part) { p.Guid = guid }, 0},
		{ok, func(p *api.Part) { p.Props = []api.Prop{{Name: "p"}} }, 1}, {ok, func(p *api.Part) { p.Props = []api.Prop{{Name: "p", Value: strings.Repeat("x", 65)}} }, 1}, {ok, func(p *api.Part) { p.Props = []api.Prop{{Name: "p", Value: "\x80"}} }, 1},
		{ok, func(p *api.Part) { p.Guid = guid + 1; p.Name = "tank/a" }, 172}, {ok, func(p *api.Part) { p.Name = "tank/a" }, 172}, {ok, func(p *api.Part) { p.Name = "tank/x/y" }, 171}, {ok, func(p *api.Part) { p.Name = "tank/v/y" }, 175},
		{ok, func(p *api.Part) { p.Origin = 9 }, 171}, {ok, func(p *api.Part) { p.Origin = guid + 1; p.Kind = 2 }, 175}, {ok, func(p *api.Part) { p.Origin = guid + 1 }, 0}, {ok, func(p *api.Part) { p.Props = many }, 173}, {ok, func(p *api.Part) { p.Props = []api.Prop{{Name: "b", Value: "2"}, {Name: "a", Value: "1"}} }, 0},
		{on, func(p *api.Part) {}, 0}, {on, func(p *api.Part) { p.Name = "tank/x" }, 171}, {on, func(p *api.Part) { p.Kind = 2 }, 175}, {on, func(p *api.Part) { p.Base = 0 }, 221}, {on, func(p *api.Part) { p.Name = "tank"; p.Base = 0 }, 221}, {on, func(p *api.Part) { p.Snap = "s" }, 172},
	} {
		f, p := base(), c.from
		c.do(&p)
		before := f.State()
		if e := f.Graft([]api.Part{p}); e != c.e {
			t.Error(i, e)
		}
		if c.e != api.OK && !reflect.DeepEqual(f.State(), before) {
			t.Error(i, "changed")
		}
		if _, e := forest.Load(f.State()); e != api.OK {
			t.Error(i, "not loaded")
		}
		if e := f.Graft([]api.Part{ok, p}); e == api.OK && i == 0 {
			t.Error("twice")
		}
	}
	f := base()
	is(t, f.Graft(nil), api.ErrArg)
	is(t, f.Graft([]api.Part{on, ok, {Name: "tank/n", Kind: 1, Base: 5, Snap: "y", Guid: 7}}), api.OK)
	g := f.State()
	if g.Clock != 6 || g.Last != 1 {
		t.Error(g.Clock, g.Last)
	}
	a, n := g.Datasets[1], g.Datasets[2]
	if a.Cells[0].Birth != 1 || a.Cells[1].Birth != 4 || a.Snaps[1].Birth != 4 || a.Snaps[1].Guid != 6 || !reflect.DeepEqual(a.Snaps[1].Cells, a.Cells) {
		t.Error(a)
	}
	if len(n.Snaps) != 2 || n.Snaps[0].Cells[0].Birth != 5 || n.Snaps[1].Birth != 6 || len(n.Cells) != 0 || len(n.Props) != 1 || n.Origin != 0 {
		t.Error(n)
	}
	before := f.State()
	is(t, f.Graft([]api.Part{{Name: "tank/n", Kind: 1, Base: 7, Snap: "x", Guid: 8}, {Name: "tank/n", Kind: 1, Base: 7, Snap: "w", Guid: 9}}), api.ErrMatch)
	if !reflect.DeepEqual(f.State(), before) {
		t.Error("half a graft")
	}
	f.Change("tank/n", []api.Cell{cell(1, 1, 1)})
	is(t, f.Graft([]api.Part{{Name: "tank/n", Kind: 1, Base: 7, Snap: "x", Guid: 8}}), api.ErrMatch)
	is(t, f.Graft([]api.Part{{Name: "tank/c", Kind: 1, New: true, Origin: guid + 1, Snap: "x", Guid: 8, Cells: []api.Cell{cell(1, 0, 1)}}}), api.OK)
	used(t, f, "tank/c", 0, 0)
	f.Quota("tank/c", 1)
	is(t, f.Graft([]api.Part{{Name: "tank/c", Kind: 1, Base: 8, Snap: "y", Guid: 10, Cells: []api.Cell{cell(1, 0, 2)}}}), api.ErrQuota)
	for i := range 11 {
		is(t, f.Snapshot("tank/c", fmt.Sprint(i), false), api.OK)
	}
	d := f.State().Datasets[2]
	is(t, f.Graft([]api.Part{{Name: "tank/c", Kind: 1, Base: d.Snaps[11].Guid, Snap: "1", Guid: 10}}), api.ErrMany)
}

// own is a dataset's OWN, told plainly.
func own(g api.Grove, d api.Dataset) int {
	type key struct{ o, at, birth int }
	seen := map[key]bool{}
	for _, x := range g.Datasets {
		for _, s := range x.Snaps {
			if s.Guid == d.Origin {
				for _, c := range s.Cells {
					seen[key{c.Object, c.At, c.Birth}] = true
				}
			}
		}
	}
	n := 0
	for _, l := range append(slices.Clone(d.Snaps), api.Snap{Cells: d.Cells}) {
		for _, c := range l.Cells {
			if k := (key{c.Object, c.At, c.Birth}); !seen[k] {
				seen[k] = true
				n += 32 + len(c.Data)
			}
		}
	}
	return n
}

// TestPlay does all kinds of things, and holds what follows against what is there.
func TestPlay(t *testing.T) {
	for seed := range int64(20) {
		r := rand.New(rand.NewSource(seed))
		f := fresh(t)
		names := []string{"tank", "tank/a", "tank/b", "tank/a/c", "tank/d"}
		pick := func() string { return names[r.Intn(len(names))] }
		snap := func() string { return string(rune('q' + r.Intn(4))) }
		for range 300 {
			before := f.State()
			var cells []api.Cell
			for o := 1; o < 5; o++ {
				if r.Intn(2) == 0 {
					cells = append(cells, cell(o, r.Intn(2), 1+r.Intn(2)))
				}
			}
			n, s := pick(), snap()
			all, uniq := 0, 0
			_, all, _ = f.Used("tank")
			e := api.ErrNone
			switch k := r.Intn(12); k {
			case 0:
				e = f.Create(n, 1, cells)
			case 1, 2, 3:
				e = f.Change(n, cells)
			case 4:
				e = f.Snapshot(n, s, r.Intn(2) == 0)
			case 5:
				uniq, _ = f.Unique(n, s)
				o, _, _ := f.Used(n)
				if e = f.Release(n, s); e == api.OK {
					if after, _, _ := f.Used(n); after != o-uniq {
						t.Fatal("Release", o, after, uniq)
					}
				}
			case 6:
				e = f.Clone(n, s, pick())
			case 7:
				if e = f.Promote(n); e == api.OK {
					if _, after, _ := f.Used("tank"); after != all {
						t.Fatal("Promote", all, after)
					}
				}
			case 8:
				e = f.Rollback(n, s)
			case 9:
				e = f.Rename(n, pick())
			case 10:
				e = f.Destroy(n)
			case 11:
				e = f.Bookmark(n, s, snap())
			}
			g := f.State()
			if e != api.OK {
				if !reflect.DeepEqual(g, before) {
					t.Fatal("changed beside", e)
				}
				continue
			}
			if g.Clock != before.Clock+1 {
				t.Fatal("clock")
			}
			for _, d := range g.Datasets {
				if o, _, _ := f.Used(d.Name); o != own(g, d) {
					t.Fatal(d.Name, o, own(g, d))
				}
				for _, s := range d.Snaps { // no snapshot is ever another one
					for _, x := range before.Datasets {
						for _, y := range x.Snaps {
							if y.Guid == s.Guid && (!reflect.DeepEqual(y.Cells, s.Cells) || y.Birth != s.Birth) {
								t.Fatal("a snapshot is another one")
							}
						}
					}
				}
			}
			l, e := forest.Load(g)
			if e != api.OK {
				t.Fatal(e)
			}
			f = l
		}
	}
	if f := fresh(t); f.Reserve("tank", math.MaxInt) != api.ErrArg {
		t.Error("Reserve")
	}
}
