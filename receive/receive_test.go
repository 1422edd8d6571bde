package receive_test

import (
	"bytes"
	"fmt"
	"math/rand"
	"reflect"
	"slices"
	"strings"
	"testing"

	"undercroft/api"
	"undercroft/forest"
	"undercroft/receive"
	"undercroft/record"
	"undercroft/send"
)

func is(t *testing.T, got, want api.Errno) {
	t.Helper()
	if got != want {
		t.Errorf("%d, not %d", got, want)
	}
}

func cell(o, at int, s string) api.Cell { return api.Cell{Object: o, At: at, Data: []byte(s)} }

func fresh(t *testing.T, seed int) *forest.Forest {
	t.Helper()
	f, e := forest.New("tank", 1<<30, seed)
	is(t, e, api.OK)
	return f
}

func receiver(t *testing.T, to string) *receive.Receiver {
	t.Helper()
	r, e := receive.New(to)
	is(t, e, api.OK)
	return r
}

// bytesOf is records as bytes behind some others, whatever they say.
func bytesOf(t *testing.T, l ...api.Record) []byte {
	t.Helper()
	b, e := record.Stream(l)
	is(t, e, api.OK)
	return b
}

func TestNew(t *testing.T) {
	for _, n := range []string{"", "A", "tank/", strings.Repeat("a/", 8) + "a"} {
		if r, e := receive.New(n); r != nil || e != api.ErrName {
			t.Error(n, e)
		}
	}
	r := receiver(t, "tank/x")
	if r.Token() != (api.Token{}) || r.Whole() || string(r.Save()) != "\x06\x00tank/x" {
		t.Errorf("%q", r.Save())
	}
	is(t, r.Commit(fresh(t, 1)), api.ErrStream)
}

func TestExample(t *testing.T) {
	f := fresh(t, 1)
	f.Snapshot("tank", "s", false)
	b, _ := send.Stream(f, "tank", "s", "", false)
	l, _ := record.Records(b)
	if len(l) != 5 {
		t.Fatal(len(l))
	}
	g := fresh(t, 2)
	r := receiver(t, "tank/x")
	is(t, r.Feed(b[:40]), api.OK)
	if tok := r.Token(); tok.Records > 1 || tok.Guid != 0 || r.Whole() {
		t.Error(tok)
	}
	is(t, r.Commit(g), api.ErrStream)
	is(t, r.Feed(b[40:]), api.OK)
	tok := r.Token()
	if !r.Whole() || tok.Records != 5 || tok.Bytes != len(b) || tok.Guid != 1<<20+1 {
		t.Error(tok)
	}
	is(t, r.Feed([]byte{6}), api.OK)
	if !r.Whole() || r.Token() != tok {
		t.Error("one byte more")
	}
	again, e := receive.Load(r.Save())
	if e != api.OK || again.Token() != tok || !again.Whole() {
		t.Error(e)
	}
	is(t, r.Commit(g), api.OK)
	if d := g.State().Datasets[1]; d.Name != "tank/x" || d.Snaps[0].Guid != 1<<20+1 || d.Snaps[0].Name != "s" {
		t.Error(d)
	}
	is(t, r.Commit(g), api.ErrExists)
	for _, b := range [][]byte{nil, {1}, {6, 0}, append(r.Save(), 1), r.Save()[:len(r.Save())-1], []byte("\x01\x00A"), append([]byte("\x01\x00a"), make([]byte, 1<<20+1)...)} {
		if r, e := receive.Load(b); r != nil || e != api.ErrToken {
			t.Error(len(b), e)
		}
	}
}

func TestLong(t *testing.T) {
	r := receiver(t, "a")
	is(t, r.Feed(make([]byte, 1<<20+1)), api.ErrLong)
	pack := bytesOf(t, api.Record{Kind: 1, Name: "s", Many: 1})
	is(t, r.Feed(pack), api.OK)
	is(t, r.Feed([]byte{6}), api.OK)
	before := r.Token()
	is(t, r.Feed(make([]byte, 1<<20-len(pack))), api.ErrLong)
	if r.Token() != before {
		t.Error("changed")
	}
	end, _, _ := record.Encode(api.Record{Kind: 6, Many: 1}, before.Sum)
	is(t, r.Feed(end[1:]), api.ErrStream) // the byte still waited
	is(t, r.Feed(make([]byte, 1<<20-len(pack))), api.ErrRecord)
	if r.Token() != before {
		t.Error("changed")
	}
}

func TestRight(t *testing.T) {
	pack := func(n int) api.Record { return api.Record{Kind: 1, Name: "s", Many: n} }
	begin := api.Record{Kind: 2, Type: 1, Guid: 5, Snap: "s"}
	from := api.Record{Kind: 2, Type: 1, From: 4, Guid: 5, Snap: "s"}
	live := func(l ...int) api.Record { return api.Record{Kind: 3, Keep: l} }
	node := func(o int, l ...int) api.Record { return api.Record{Kind: 4, Object: o, Keep: l} }
	write := func(o, at int) api.Record { return api.Record{Kind: 5, Object: o, At: at, Data: []byte("x")} }
	end := func(n int) api.Record { return api.Record{Kind: 6, Many: n} }
	done := func(n int) api.Record { return api.Record{Kind: 7, Many: n} }
	for i, c := range []struct {
		l  []api.Record
		ok bool // all are right; else all but the last one
	}{
		{[]api.Record{begin}, false}, {[]api.Record{done(1)}, false}, {[]api.Record{pack(1), pack(1)}, false}, {[]api.Record{pack(1), done(2)}, false}, {[]api.Record{pack(1), live()}, false}, {[]api.Record{pack(1), begin, begin}, false}, {[]api.Record{pack(1), begin, end(2)}, false}, {[]api.Record{pack(1), begin, write(1, 0)}, false},
		{[]api.Record{pack(1), begin, live(), end(3), done(5)}, true}, {[]api.Record{pack(1), begin, live(), end(2)}, false}, {[]api.Record{pack(1), begin, live(), end(3), done(4)}, false}, {[]api.Record{pack(1), begin, live(), end(3), begin}, false}, {[]api.Record{pack(1), begin, live(), end(3), done(5), done(6)}, false}, {[]api.Record{pack(1), begin, live(), done(4)}, false}, {[]api.Record{pack(1), begin, live(), live()}, false},
		{[]api.Record{pack(2), begin, live(), end(3), done(5)}, false}, {[]api.Record{pack(2), begin, live(), end(3), from, live(), end(3), done(8)}, true},
		{[]api.Record{pack(1), begin, live(2), node(1, 0)}, false}, {[]api.Record{pack(1), begin, live(2), write(2, 0)}, false}, {[]api.Record{pack(1), begin, live(2), end(3)}, false}, {[]api.Record{pack(1), begin, live(2), node(2, 0), end(4)}, false}, {[]api.Record{pack(1), begin, live(2), node(2, 0), node(2, 0)}, false},
		{[]api.Record{pack(1), begin, live(1, 2), node(2, 0), node(1, 0)}, false}, {[]api.Record{pack(1), begin, live(1, 2), node(1, 0), node(2, 0), write(1, 0)}, false}, {[]api.Record{pack(1), begin, live(1, 2), node(1, 0, 3), write(1, 1)}, false}, {[]api.Record{pack(1), begin, live(1, 2), node(1, 0, 3), write(1, 3), write(1, 0)}, false}, {[]api.Record{pack(1), begin, live(1, 2), node(1, 0, 3), write(1, 3), write(1, 3)}, false},
		{[]api.Record{pack(1), begin, live(1, 2), node(1, 0, 3), write(1, 3), node(2, 4), write(2, 4), end(7)}, false}, {[]api.Record{pack(1), begin, live(1, 2), node(1, 0, 3), write(1, 0), write(1, 3), node(2, 4), write(2, 4), end(8), done(10)}, true}, {[]api.Record{pack(1), begin, live(1, 2), node(2, 4), write(2, 4), end(5)}, false},
		{[]api.Record{pack(1), from, live(1, 2), end(3), done(5)}, true}, {[]api.Record{pack(1), from, live(1, 2), node(2, 0, 3), end(4)}, true}, {[]api.Record{pack(1), from, live(1, 2), node(2, 0, 3), write(2, 3), end(5), done(7)}, true},
	} {
		b := bytesOf(t, c.l...)
		short := bytesOf(t, c.l[:len(c.l)-1]...)
		for _, piece := range []int{1, 7, 50, len(b)} {
			r := receiver(t, "a")
			e := api.OK
			for at := 0; at < len(b) && e == api.OK; at += piece {
				e = r.Feed(b[at:min(at+piece, len(b))])
			}
			want, has := api.OK, b
			if !c.ok {
				want, has = api.ErrStream, short
			}
			if e != want || !bytes.Equal(r.Save()[3:], has) || r.Token().Bytes != len(has) {
				t.Error(i, piece, e)
			}
			if x, e := receive.Load(r.Save()); e != api.OK || x.Token() != r.Token() || !bytes.Equal(x.Save(), r.Save()) {
				t.Error(i, e)
			}
			if x, e := receive.Load(append([]byte("\x01\x00a"), b...)); (e == api.OK) != c.ok || (x == nil) == c.ok {
				t.Error(i, e)
			}
			n := len(c.l)
			if !c.ok {
				n--
			}
			if whole := n > 0 && c.l[n-1].Kind == 7; r.Whole() != whole {
				t.Error(i, "Whole")
			}
		}
	}
}

// world is a source with snapshots, clones and volumes.
func world(t *testing.T, seed int64) *forest.Forest {
	t.Helper()
	r := rand.New(rand.NewSource(seed))
	f := fresh(t, 1)
	cells := func() []api.Cell {
		var l []api.Cell
		for o := 1; o < 5; o++ {
			for at := -1; at < 2; at++ {
				if r.Intn(3) > 0 {
					l = append(l, cell(o, at, strings.Repeat("x", 1+r.Intn(3))))
				}
			}
		}
		return l
	}
	f.Create("tank/a", 1, cells())
	f.Create("tank/a/v", 2, cells())
	f.Create("tank/a/b", 1, cells())
	f.Set("tank/a", "p", "v")
	for i := range 4 {
		f.Change("tank/a", cells())
		if r.Intn(2) == 0 {
			f.Change("tank/a/v", cells())
		}
		f.Snapshot("tank/a", fmt.Sprint("s", i), true)
		if i == 1 {
			f.Clone("tank/a", "s1", "tank/a/b/c")
			f.Clone("tank/a/v", "s0", "tank/a/0")
		}
		f.Change("tank/a/b/c", cells())
	}
	if r.Intn(2) == 0 {
		f.Promote("tank/a/b/c")
	}
	return f
}

// brought holds what is below a dataset against another forest's.
func brought(t *testing.T, f, g *forest.Forest, name, to string, snaps ...string) {
	t.Helper()
	there := map[string]api.Dataset{}
	guids := map[int]string{}
	for _, d := range g.State().Datasets {
		there[d.Name] = d
		for _, s := range d.Snaps {
			guids[s.Guid] = d.Name
		}
	}
	for _, d := range f.State().Datasets {
		if d.Name != name && !strings.HasPrefix(d.Name, name+"/") {
			continue
		}
		x := there[to+d.Name[len(name):]]
		for _, s := range d.Snaps {
			if !slices.Contains(snaps, s.Name) {
				continue
			}
			i := slices.IndexFunc(x.Snaps, func(y api.Snap) bool { return y.Name == s.Name })
			if i < 0 {
				t.Fatal("not there:", d.Name, s.Name)
			}
			same := slices.EqualFunc(s.Cells, x.Snaps[i].Cells, func(a, b api.Cell) bool {
				return a.Object == b.Object && a.At == b.At && bytes.Equal(a.Data, b.Data)
			})
			if x.Snaps[i].Guid != s.Guid || !same || x.Kind != d.Kind {
				t.Fatal("another one:", d.Name, s.Name)
			}
		}
		if d.Origin != 0 && guids[d.Origin] != "" && x.Origin != d.Origin {
			t.Error("origin of", d.Name, x.Origin, d.Origin)
		}
		if len(x.Props) != len(d.Props) {
			t.Error("properties of", d.Name)
		}
	}
}

// TestBrings carries snapshots over in pieces that break off, and begin again from the token.
func TestBrings(t *testing.T) {
	for seed := range int64(12) {
		r := rand.New(rand.NewSource(seed))
		f, g := world(t, seed), fresh(t, 2)
		carry := func(snap, base string, deep bool) api.Errno {
			b, e := send.Stream(f, "tank/a", snap, base, deep)
			if e != api.OK {
				return e
			}
			x := receiver(t, "tank/copy")
			for tries := 0; !x.Whole(); tries++ {
				if tries > 10000 {
					t.Fatal("no end")
				}
				rest, e := send.Rest(b, x.Token())
				is(t, e, api.OK)
				for len(rest) > 0 {
					n := min(1+r.Intn(200), len(rest))
					piece := bytes.Clone(rest[:n])
					bad := r.Intn(20) == 0
					if bad {
						piece[r.Intn(n)] ^= 1 << r.Intn(8)
					}
					if x.Feed(piece) != api.OK || bad || r.Intn(20) == 0 {
						break
					}
					rest = rest[n:]
				}
				if !x.Whole() {
					x, e = receive.Load(x.Save())
					is(t, e, api.OK)
				}
			}
			before := g.State()
			e = x.Commit(g)
			if e != api.OK && !reflect.DeepEqual(g.State(), before) {
				t.Fatal("changed beside", e)
			}
			return e
		}
		if seed%2 == 0 {
			e := carry("s1", "", true)
			if f.State().Datasets[1].Origin != 0 {
				is(t, e, api.ErrNone)
				continue
			}
			is(t, e, api.OK)
			brought(t, f, g, "tank/a", "tank/copy", "s0", "s1")
			is(t, carry("s1", "", true), api.ErrExists)
			is(t, carry("s3", "@s1", true), api.ErrBase) // clones have no s1
			g = fresh(t, 2)
			is(t, carry("s3", "", true), api.OK)
			brought(t, f, g, "tank/a", "tank/copy", "s0", "s1", "s2", "s3")
			clones := 0
			for _, d := range g.State().Datasets {
				if d.Origin != 0 {
					clones++
				}
			}
			if clones != 2 {
				t.Error("clones", clones)
			}
			continue
		}
		if f.State().Datasets[1].Origin != 0 { // promoted: s0 is another one's now
			is(t, carry("s0", "", false), api.ErrNone)
			continue
		}
		is(t, carry("s0", "", false), api.OK)
		f.Bookmark("tank/a", "s1", "m")
		is(t, carry("s1", "@s0", false), api.OK)
		is(t, carry("s3", "#m", false), api.OK)
		for _, s := range []string{"s0", "s1", "s3"} {
			want, _ := f.Content("tank/a", s)
			got, e := g.Content("tank/copy", s)
			if e != api.OK || len(got) != len(want) {
				t.Error(s, e)
			}
			for i := range got {
				if got[i].Object != want[i].Object || got[i].At != want[i].At || !bytes.Equal(got[i].Data, want[i].Data) {
					t.Error(s, i)
				}
			}
		}
		g.Change("tank/copy", nil)
		f.Snapshot("tank/a", "last", false)
		is(t, carry("last", "@s3", false), api.ErrMatch)
		g.Rollback("tank/copy", "s3")
		is(t, carry("last", "@s3", false), api.OK)
	}
}

func TestMatch(t *testing.T) {
	f, g := fresh(t, 1), fresh(t, 2)
	f.Create("tank/a", 1, []api.Cell{cell(1, 0, "a"), cell(2, 0, "b")})
	f.Snapshot("tank/a", "s", false)
	f.Change("tank/a", []api.Cell{cell(1, 0, "c"), cell(2, 0, "b")})
	f.Snapshot("tank/a", "t", false)
	commit := func(l ...api.Record) api.Errno {
		r := receiver(t, "tank/x")
		is(t, r.Feed(bytesOf(t, l...)), api.OK)
		if !r.Whole() {
			t.Fatal("not whole")
		}
		before := r.Save()
		e := r.Commit(g)
		if !bytes.Equal(r.Save(), before) {
			t.Error("the receiver has changed")
		}
		return e
	}
	inc, _ := send.Records(f, "tank/a", "t", "@s", false)
	is(t, commit(inc...), api.ErrMatch)
	all, _ := send.Records(f, "tank/a", "s", "", false)
	is(t, commit(all...), api.OK)
	pack := inc[0]
	begin := inc[1]
	live := func(l ...int) api.Record { return api.Record{Kind: 3, Keep: l} }
	// an object that the base has not, and that does not come; a place of one likewise
	is(t, commit(pack, begin, live(1, 2, 3), api.Record{Kind: 6, Many: 3}, api.Record{Kind: 7, Many: 5}), api.ErrMatch)
	is(t, commit(pack, begin, live(1, 2), api.Record{Kind: 4, Object: 1, Keep: []int{0, 1}}, api.Record{Kind: 6, Many: 4}, api.Record{Kind: 7, Many: 6}), api.ErrMatch)
	is(t, commit(pack, begin, live(1, 2), api.Record{Kind: 4, Object: 1, Keep: []int{1}}, api.Record{Kind: 5, Object: 1, At: 1, Data: []byte("z")}, api.Record{Kind: 6, Many: 5}, api.Record{Kind: 7, Many: 7}), api.OK)
	if l, _ := g.Content("tank/x", "t"); len(l) != 2 || l[0].At != 1 || l[1].Object != 2 {
		t.Error(l)
	}
	// a clone of what comes with it, and of what is there already
	of := api.Record{Kind: 2, Name: "/c", Type: 1, From: 77, Guid: 88, Origin: 1, Snap: "u"}
	first := api.Record{Kind: 2, Name: "/o", Type: 1, Guid: 77, Snap: "o"}
	three := []api.Record{live(1), {Kind: 4, Object: 1, Keep: []int{0}}, {Kind: 5, Object: 1, Data: []byte("q")}, {Kind: 6, Many: 5}}
	l := append(append([]api.Record{{Kind: 1, Name: "u", Many: 2}, first}, three...), of, live(1), api.Record{Kind: 6, Many: 3}, api.Record{Kind: 7, Many: 10})
	is(t, commit(l...), api.OK)
	if d := g.State().Datasets; d[2].Name != "tank/x/c" || d[2].Origin != 77 || len(d[2].Cells) != 1 || d[2].Snaps[0].Guid != 88 {
		t.Error(d)
	}
	of.Guid, of.Name = 99, "/d"
	is(t, commit(api.Record{Kind: 1, Name: "u", Many: 1}, of, live(1), api.Record{Kind: 6, Many: 3}, api.Record{Kind: 7, Many: 5}), api.OK)
	of.From, of.Guid = 5, 100
	is(t, commit(api.Record{Kind: 1, Name: "u", Many: 1}, of, live(), api.Record{Kind: 6, Many: 3}, api.Record{Kind: 7, Many: 5}), api.ErrMatch)
	// a node without a write of its place, of a single place
	begin.From, begin.Guid, begin.Snap = begin.Guid, 101, "w"
	is(t, commit(pack, begin, live(1, 2), api.Record{Kind: 4, Object: 2, Keep: []int{7}}, api.Record{Kind: 6, Many: 4}, api.Record{Kind: 7, Many: 6}), api.ErrMatch)
	is(t, commit(pack, begin, live(1, 2), api.Record{Kind: 6, Many: 3}, api.Record{Kind: 7, Many: 5}), api.OK)
	b := begin
	b.Name = strings.Repeat("/a", 7)
	b.From = 0
	is(t, commit(pack, b, live(), api.Record{Kind: 6, Many: 3}, api.Record{Kind: 7, Many: 5}), api.ErrName)
	// the stream may end elsewhere than it says
	r := receiver(t, "tank/x")
	is(t, r.Feed(bytesOf(t, pack, b, live(), api.Record{Kind: 6, Many: 3}, api.Record{Kind: 7, Many: 9})), api.ErrStream)
	if tok := r.Token(); tok.Records != 4 || r.Whole() {
		t.Error(tok)
	}
	x, _, _ := record.Encode(api.Record{Kind: 7, Many: 5}, r.Token().Sum)
	is(t, r.Feed(x), api.OK)
	if !r.Whole() {
		t.Error("not whole")
	}
}
