package send_test

import (
	"bytes"
	"fmt"
	"math/rand"
	"reflect"
	"slices"
	"strings"
	"testing"

	"undercroft/api"
	"undercroft/forest"
	"undercroft/record"
	"undercroft/send"
)

func is(t *testing.T, got, want api.Errno) {
	t.Helper()
	if got != want {
		t.Errorf("%d, not %d", got, want)
	}
}

func cell(o, at int, s string) api.Cell { return api.Cell{Object: o, At: at, Data: []byte(s)} }

// told is records in short.
func told(l []api.Record) string {
	var b strings.Builder
	for _, r := range l {
		switch r.Kind {
		case api.RecPackage:
			fmt.Fprintf(&b, "package %s %d\n", r.Name, r.Many)
		case api.RecBegin:
			fmt.Fprintf(&b, "begin %q %d %d>%d %d %s %d\n", r.Name, r.Type, r.From, r.Guid, r.Origin, r.Snap, len(r.Props))
		case api.RecLive:
			fmt.Fprintln(&b, "live", r.Keep)
		case api.RecNode:
			fmt.Fprintln(&b, "node", r.Object, r.Keep)
		case api.RecWrite:
			fmt.Fprintf(&b, "write %d %d %s\n", r.Object, r.At, r.Data)
		case api.RecEnd:
			fmt.Fprintln(&b, "end", r.Many)
		case api.RecDone:
			fmt.Fprintln(&b, "done", r.Many)
		}
	}
	return b.String()
}

func tells(t *testing.T, f *forest.Forest, name, snap, base string, deep bool, want ...string) {
	t.Helper()
	l, e := send.Records(f, name, snap, base, deep)
	got := strings.Split(strings.TrimSpace(told(l)), "\n")
	if e != api.OK || !slices.Equal(got, want) {
		t.Errorf("%d\n%s", e, strings.Join(got, "\n"))
	}
	for _, r := range l {
		is(t, record.Check(r), api.OK)
	}
	b, e := send.Stream(f, name, snap, base, deep)
	back, e2 := record.Records(b)
	if e != api.OK || e2 != api.OK || told(back) != told(l) {
		t.Error(e, e2)
	}
}

func fresh(t *testing.T) *forest.Forest {
	t.Helper()
	f, e := forest.New("tank", 1<<30, 0)
	is(t, e, api.OK)
	is(t, f.Create("tank/a", 1, []api.Cell{cell(1, -1, "n"), cell(1, 0, "old"), cell(2, -1, "m"), cell(2, 3, "x")}), api.OK)
	f.Set("tank/a", "p", "v")
	f.Snapshot("tank/a", "s", false) // 1
	is(t, f.Change("tank/a", []api.Cell{cell(1, -1, "n"), cell(1, 0, "new"), cell(1, 1, "y"), cell(2, -1, "m")}), api.OK)
	f.Snapshot("tank/a", "t", false) // 2
	f.Bookmark("tank/a", "s", "m")
	f.Bookmark("tank/a", "t", "late")
	return f
}

func TestAlone(t *testing.T) {
	f := fresh(t)
	before := f.State()
	tells(t, f, "tank/a", "s", "", false, "package s 1", `begin "" 1 0>1 0 s 1`, "live [1 2]", "node 1 [-1 0]", "write 1 -1 n", "write 1 0 old", "node 2 [-1 3]", "write 2 -1 m", "write 2 3 x", "end 9", "done 11")
	tells(t, f, "tank/a", "t", "@s", false, "package t 1", `begin "" 1 1>2 0 t 1`, "live [1 2]", "node 1 [-1 0 1]", "write 1 0 new", "write 1 1 y", "node 2 [-1]", "end 7", "done 9")
	f.Release("tank/a", "s")
	tells(t, f, "tank/a", "t", "#m", false, "package t 1", `begin "" 1 1>2 0 t 1`, "live [1 2]", "node 1 [-1 0 1]", "write 1 0 new", "write 1 1 y", "node 2 [-1]", "end 7", "done 9")
	f.Snapshot("tank/a", "u", false) // 3: nothing has changed
	tells(t, f, "tank/a", "u", "@t", false, "package u 1", `begin "" 1 2>3 0 u 1`, "live [1 2]", "end 3", "done 5")
	tells(t, f, "tank/a", "u", "#late", false, "package u 1", `begin "" 1 2>3 0 u 1`, "live [1 2]", "node 1 [-1 0 1]", "node 2 [-1]", "end 5", "done 7")
	f.Change("tank/a", nil)
	f.Snapshot("tank/a", "w", false)
	tells(t, f, "tank/a", "w", "@u", false, "package w 1", `begin "" 1 3>4 0 w 1`, "live []", "end 3", "done 5")
	if len(before.Datasets) != 2 {
		t.Error("changed")
	}
}

func TestErrors(t *testing.T) {
	f := fresh(t)
	f.Create("tank/a/b", 1, nil)
	f.Snapshot("tank/a/b", "t", false)
	before := f.State()
	for i, c := range []struct {
		name, snap, base string
		deep             bool
		e                api.Errno
	}{
		{"tank/x", "s", "?", false, 171}, {"tank/a", "x", "?", false, 171}, {"tank/a", "s", "s", false, 210}, {"tank/a", "s", "?", true, 210}, {"tank/a", "t", "@x", false, 171}, {"tank/a", "t", "#x", true, 171}, {"tank/a", "t", "@t", false, 210}, {"tank/a", "s", "@t", false, 210},
		{"tank/a", "s", "#m", false, 210}, {"tank/a", "t", "#late", false, 210}, {"tank/a", "t", "#m", true, 210}, {"tank/a", "t", "@s", true, 210}, {"tank/a", "t", "@s", false, 0}, {"tank/a", "t", "#m", false, 0}, {"tank/a", "s", "", true, 0},
	} {
		l, e := send.Records(f, c.name, c.snap, c.base, c.deep)
		b, e2 := send.Stream(f, c.name, c.snap, c.base, c.deep)
		if e != c.e || e2 != c.e || e != api.OK && (len(l) > 0 || len(b) > 0) {
			t.Error(i, e, e2)
		}
	}
	if !reflect.DeepEqual(f.State(), before) {
		t.Error("changed")
	}
	big, _ := forest.New("tank", 1<<40, 0)
	for i := range 20 {
		var l []api.Cell
		for k := range 240 {
			l = append(l, api.Cell{Object: k + 1, Data: make([]byte, 256)})
		}
		is(t, big.Create(fmt.Sprint("tank/", i), 1, l), api.OK)
	}
	big.Snapshot("tank", "s", true)
	if _, e := send.Records(big, "tank", "s", "", true); e != api.OK {
		t.Error(e)
	}
	if b, e := send.Stream(big, "tank", "s", "", true); len(b) != 0 || e != api.ErrLong {
		t.Error(e)
	}
}

// TestForm has bases that are of the form, though none is there, and such that are not.
func TestForm(t *testing.T) {
	f := fresh(t)
	f.Snapshot("tank/a", "0", false) // names of one sign, and such with all signs
	f.Snapshot("tank/a", "9a.b_c-d", false)
	f.Bookmark("tank/a", "0", "9a.b_c-d")
	f.Snapshot("tank/a", "u", false)
	for _, base := range []string{"", "@0", "@9a.b_c-d", "#9a.b_c-d", "#m"} {
		_, e := send.Records(f, "tank/a", "u", base, false)
		is(t, e, api.OK)
	}
	before := f.State()
	p24 := strings.Repeat("a", api.MaxPart)
	asks := func(name, snap, base string, want api.Errno) {
		t.Helper()
		for _, deep := range []bool{false, true} {
			l, e := send.Records(f, name, snap, base, deep)
			b, e2 := send.Stream(f, name, snap, base, deep)
			if e != want || e2 != want || len(l) > 0 || len(b) > 0 {
				t.Errorf("%q %v: %d, %d, not %d", base, deep, e, e2, want)
			}
		}
	}
	for _, name := range []string{"n", "1", "n.", "n_", "n-", "m0", p24, "0" + p24[1:]} {
		asks("tank/a", "u", "@"+name, api.ErrNone)
		asks("tank/a", "u", "#"+name, api.ErrNone)
	}
	for _, name := range []string{"", "A", "aA", "-x", ".x", "_x", "s/t", "tank/a", "/", "a b", " s", "s ", "@s", "#m", "s@", "m#", "é", "s\x00", "\xff", p24 + "a", strings.Repeat("a", 1<<16)} {
		asks("tank/a", "u", "@"+name, api.ErrBase)
		asks("tank/a", "u", "#"+name, api.ErrBase)
		asks("tank/x", "u", "@"+name, api.ErrNone) // what is to be sent is looked for first
		asks("tank/a", "x", "#"+name, api.ErrNone)
	}
	for _, base := range []string{"s", "m", "?", "-", " ", " @s", "0", "é", "\x00", "!s", "$s", "A@s", "/@s"} {
		asks("tank/a", "u", base, api.ErrBase)
		asks("tank/x", "u", base, api.ErrNone)
	}
	if !reflect.DeepEqual(f.State(), before) {
		t.Error("changed")
	}
}

func TestDeep(t *testing.T) {
	f := fresh(t)
	f.Clone("tank/a", "s", "tank/a-c") // ahead of tank/a/b by names
	f.Clone("tank/a", "t", "tank/a/b")
	f.Create("tank/0", 1, nil)
	f.Create("tank/0/x", 2, nil)
	f.Snapshot("tank/a-c", "s", false) // 3
	f.Snapshot("tank", "t", true)      // exists
	for _, n := range []string{"tank", "tank/0/x", "tank/a-c", "tank/a/b"} {
		is(t, f.Snapshot(n, "t", false), api.OK) // 4 to 7
	}
	var got []string
	l, e := send.Records(f, "tank", "t", "", true)
	is(t, e, api.OK)
	for _, r := range l {
		if r.Kind == api.RecBegin {
			got = append(got, fmt.Sprintf("%s %s %d>%d %d", r.Name, r.Snap, r.From, r.Guid, r.Origin))
		}
	}
	want := []string{" t 0>4 0", "/0/x t 0>5 0", "/a s 0>1 0", "/a t 1>2 0", "/a-c s 1>3 1", "/a-c t 3>6 0", "/a/b t 2>7 1"}
	if !slices.Equal(got, want) || l[0].Many != 7 || l[len(l)-1].Many != len(l) {
		t.Error(got)
	}
	tells(t, f, "tank/a-c", "t", "", false, "package t 1", `begin "" 1 0>6 0 t 0`, "live [1 2]", "node 1 [-1 0]", "write 1 -1 n", "write 1 0 old", "node 2 [-1 3]", "write 2 -1 m", "write 2 3 x", "end 9", "done 11")
	f.Snapshot("tank", "u", true)
	if _, e := send.Records(f, "tank", "u", "@t", true); e != api.ErrBase { // tank/0 has no t
		t.Error(e)
	}
	f.Destroy("tank/0/x")
	g := f.State()
	for _, d := range g.Datasets {
		if strings.HasPrefix(d.Name, "tank/0") {
			for _, s := range d.Snaps {
				f.Release(d.Name, s.Name)
			}
		}
	}
	f.Snapshot("tank", "w", false)
	l, e = send.Records(f, "tank", "u", "@t", true)
	got = nil
	for _, r := range l {
		if r.Kind == api.RecBegin {
			got = append(got, fmt.Sprintf("%s %s %d", r.Name, r.Snap, r.Origin))
		}
	}
	if e != api.OK || !slices.Equal(got, []string{" u 0", "/a u 0", "/a-c u 0", "/a/b u 0"}) {
		t.Error(got, e)
	}
}

// begins are the parts' beginnings of a package.
func begins(t *testing.T, f *forest.Forest, name, snap, base string) []string {
	t.Helper()
	l, e := send.Records(f, name, snap, base, true)
	is(t, e, api.OK)
	var got []string
	for _, r := range l {
		if r.Kind == api.RecBegin {
			got = append(got, fmt.Sprintf("%s %s %d>%d %d", r.Name, r.Snap, r.From, r.Guid, r.Origin))
		}
	}
	return got
}

// TestOrder has clones that stand ahead of their origins by names.
func TestOrder(t *testing.T) {
	f, _ := forest.New("tank", 1<<30, 0)
	f.Create("tank/z", 1, []api.Cell{cell(1, 0, "z")})
	f.Snapshot("tank/z", "o", false) // 1
	f.Clone("tank/z", "o", "tank/a")
	f.Create("tank/a/b", 1, nil)
	f.Create("tank/c", 1, nil)
	f.Snapshot("tank", "s", true) // 2 to 6: tank, tank/a, tank/a/b, tank/c, tank/z
	if got, want := begins(t, f, "tank", "s", ""), []string{" s 0>2 0", "/c s 0>5 0", "/z o 0>1 0", "/z s 1>6 0", "/a s 1>3 1", "/a/b s 0>4 0"}; !slices.Equal(got, want) {
		t.Error(got)
	}
	if got, want := begins(t, f, "tank/a", "s", ""), []string{" s 0>3 0", "/b s 0>4 0"}; !slices.Equal(got, want) {
		t.Error(got)
	}
	f.Snapshot("tank", "t", true)                                                                                                                                 // 7 to 11
	if got, want := begins(t, f, "tank", "t", "@s"), []string{" t 2>7 0", "/c t 5>10 0", "/z t 6>11 0", "/a t 3>8 0", "/a/b t 4>9 0"}; !slices.Equal(got, want) { // with a base all are from it
		t.Error(got)
	}
	// a clone above its origin: each waits for the other one
	f, _ = forest.New("tank", 1<<30, 0)
	f.Create("tank/x", 1, []api.Cell{cell(1, 0, "x")})
	f.Snapshot("tank/x", "o", false) // 1
	f.Clone("tank/x", "o", "tank/a")
	f.Rename("tank/x", "tank/a/x")
	f.Snapshot("tank", "s", true) // 2 to 4
	if got, want := begins(t, f, "tank", "s", ""), []string{" s 0>2 0", "/a s 0>3 0", "/a/x o 0>1 0", "/a/x s 1>4 0"}; !slices.Equal(got, want) {
		t.Error(got)
	}
	// the origin is a later snapshot than the one that is sent
	f, _ = forest.New("tank", 1<<30, 0)
	f.Create("tank/d", 1, nil)
	f.Snapshot("tank/d", "s", false) // 1
	f.Snapshot("tank/d", "late", false)
	f.Clone("tank/d", "late", "tank/e")
	f.Snapshot("tank/e", "s", false) // 3
	f.Snapshot("tank", "s", false)   // 4
	if got, want := begins(t, f, "tank", "s", ""), []string{" s 0>4 0", "/d s 0>1 0", "/e s 0>3 0"}; !slices.Equal(got, want) {
		t.Error(got)
	}
}

// TestBirths has cells that are as old as the snapshot that they are sent from, or as the forest.
func TestBirths(t *testing.T) {
	f, _ := forest.New("tank", 1<<30, 0)
	is(t, f.Graft([]api.Part{{Name: "tank/g", Kind: 1, New: true, Snap: "s", Guid: 1 << 30, Cells: []api.Cell{cell(1, 0, "a"), cell(2, 0, "b")}}}), api.OK)
	f.Change("tank/g", []api.Cell{cell(1, 0, "a"), cell(2, 0, "c")})
	f.Snapshot("tank/g", "t", false)
	tells(t, f, "tank/g", "t", "@s", false, "package t 1", `begin "" 1 1073741824>1 0 t 0`, "live [1 2]", "node 2 [0]", "write 2 0 c", "end 5", "done 7")
	g := f.State()
	g.Datasets[1].Snaps[0].Cells[0].Birth = 0
	f, e := forest.Load(g)
	is(t, e, api.OK)
	tells(t, f, "tank/g", "s", "", false, "package s 1", `begin "" 1 0>1073741824 0 s 0`, "live [1 2]", "node 1 [0]", "write 1 0 a", "node 2 [0]", "write 2 0 b", "end 7", "done 9")
}

func TestRest(t *testing.T) {
	f := fresh(t)
	b, _ := send.Stream(f, "tank/a", "t", "", true)
	l, _ := record.Records(b)
	tok := api.Token{}
	for i := 0; ; i++ {
		r, e := send.Rest(b, tok)
		if e != api.OK || !bytes.Equal(r, b[tok.Bytes:]) {
			t.Error(i, e)
		}
		for k, do := range []func(x *api.Token){func(x *api.Token) { x.Bytes++ }, func(x *api.Token) { x.Bytes-- }, func(x *api.Token) { x.Records++ }, func(x *api.Token) { x.Records-- }, func(x *api.Token) { x.Guid++ }, func(x *api.Token) { x.Sum.D++ }, func(x *api.Token) { x.Records += 1 << 60 }} {
			bad := tok
			do(&bad)
			if r, e := send.Rest(b, bad); len(r) != 0 || e != api.ErrToken {
				t.Error(i, k, e)
			}
		}
		if i == len(l) {
			break
		}
		_, n, s, _ := record.Decode(b[tok.Bytes:], tok.Sum)
		tok = api.Token{Guid: tok.Guid, Records: i + 1, Bytes: tok.Bytes + n, Sum: s}
		if i == 1 {
			tok.Guid = 1
		}
	}
	if r, _ := send.Rest(b, api.Token{}); len(r) > 0 {
		r[0] = 9
		if b[0] == 9 {
			t.Error("shared")
		}
	}
	for _, x := range []api.Token{{Bytes: -1}, {Records: -1}, {Bytes: len(b) + 1}, {Bytes: 1 << 62, Records: 1 << 62}} {
		if r, e := send.Rest(b, x); len(r) != 0 || e != api.ErrToken {
			t.Error(x, e)
		}
	}
	if _, e := send.Rest(b[1:], api.Token{Records: 1, Bytes: 40}); e != api.ErrToken {
		t.Error(e)
	}
}

// TestEnough lays what records bring onto the base's cells.
func TestEnough(t *testing.T) {
	for seed := range int64(30) {
		r := rand.New(rand.NewSource(seed))
		f, _ := forest.New("tank", 1<<30, 0)
		var snaps []string
		for i := range 8 {
			var l []api.Cell
			for o := 1; o < 6; o++ {
				for at := -1; at < 3; at++ {
					if r.Intn(3) > 0 {
						l = append(l, cell(o, at, string(rune('a'+r.Intn(3)))))
					}
				}
			}
			if r.Intn(4) > 0 {
				is(t, f.Change("tank", l), api.OK)
			}
			n := fmt.Sprint(i)
			f.Snapshot("tank", n, false)
			f.Bookmark("tank", n, n)
			snaps = append(snaps, n)
		}
		for i := range snaps {
			for k := range i + 1 {
				for _, sign := range []string{"@", "#"} {
					base, from := sign+snaps[k], snaps[k]
					if k == i {
						base, from = "", "none"
					}
					l, e := send.Records(f, "tank", snaps[i], base, false)
					is(t, e, api.OK)
					have := map[[2]int]string{}
					c, _ := f.Content("tank", from)
					for _, x := range c {
						have[[2]int{x.Object, x.At}] = string(x.Data)
					}
					for _, x := range l {
						switch x.Kind {
						case api.RecLive:
							for at := range have {
								if !slices.Contains(x.Keep, at[0]) {
									delete(have, at)
								}
							}
						case api.RecNode:
							for at := range have {
								if at[0] == x.Object && !slices.Contains(x.Keep, at[1]) {
									delete(have, at)
								}
							}
						case api.RecWrite:
							have[[2]int{x.Object, x.At}] = string(x.Data)
						}
					}
					want, _ := f.Content("tank", snaps[i])
					for _, x := range want {
						if have[[2]int{x.Object, x.At}] != string(x.Data) {
							t.Fatal(seed, base, snaps[i])
						}
					}
					if len(have) != len(want) {
						t.Fatal(seed, base, snaps[i], len(have), len(want))
					}
				}
			}
		}
	}
}
