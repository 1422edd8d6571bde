package session_test

import (
	"reflect"
	"testing"

	"undercroft/api"
	"undercroft/session"
)

func is(t *testing.T, got, want api.Errno) {
	t.Helper()
	if got != want {
		t.Errorf("%d, not %d", got, want)
	}
}

func counts(t *testing.T, x *session.Table, a, b, c int) {
	t.Helper()
	if n, m, k := x.Counts(); n != a || m != b || k != c {
		t.Error(n, m, k)
	}
}

func TestExample(t *testing.T) {
	x := session.New()
	counts(t, x, 0, 0, 0)
	look := func(s, id int, text string, ok bool, e api.Errno) {
		t.Helper()
		want := api.Reply{}
		if ok {
			want = api.Reply{Session: s, ID: id, Text: text}
		}
		if r, o, er := x.Look(s, id); !reflect.DeepEqual(r, want) || o != ok || er != e {
			t.Error(s, id, r, o, er)
		}
	}
	look(1, 5, "", false, api.OK)
	is(t, x.Keep(api.Reply{Session: 1, ID: 5, Text: "a"}), api.OK)
	look(1, 5, "a", true, api.OK)
	look(1, 4, "", false, api.ErrStale)
	look(1, 6, "", false, api.OK)
	is(t, x.Keep(api.Reply{Session: 1, ID: 5}), api.ErrStale)
	is(t, x.Keep(api.Reply{Session: 9, ID: 5}), api.ErrSession)
	if x.Last(1) != 5 || x.Last(2) != 0 || x.Last(0) != 0 || x.Last(9) != 0 || x.Last(-1) != 0 {
		t.Error(x.Last(1))
	}
	counts(t, x, 1, 1, 3)
	for _, c := range [][2]int{{0, 1}, {9, 1}, {-1, 1}, {1, 0}, {1, -1}, {1, 1<<30 + 1}} {
		look(c[0], c[1], "", false, api.ErrSession)
		is(t, x.Keep(api.Reply{Session: c[0], ID: c[1]}), api.ErrSession)
	}
	counts(t, x, 1, 1, 15)
	is(t, x.Keep(api.Reply{Session: 8, ID: 1 << 30, Text: "z"}), api.OK)
	look(8, 1<<30, "z", true, api.OK)
	is(t, x.Keep(api.Reply{Session: 1, ID: 6, Text: "b"}), api.OK)
	look(1, 5, "", false, api.ErrStale)
	look(1, 6, "b", true, api.OK)
	counts(t, x, 3, 3, 16)
	counts(t, x.Clone(), 3, 3, 16)
}

func TestMemory(t *testing.T) {
	x := session.New()
	r := api.Reply{Session: 2, ID: 1, List: []string{"a"}, Data: []byte("b")}
	want := api.Reply{Session: 2, ID: 1, List: []string{"a"}, Data: []byte("b")}
	x.Keep(r)
	c := x.Clone()
	r.List[0], r.Data[0] = "x", 'x'
	got, _, _ := x.Look(2, 1)
	got.List[0], got.Data[0] = "x", 'x'
	x.All()[0].List[0] = "x"
	c.All()[0].Data[0] = 'x'
	for _, y := range []*session.Table{x, c} {
		if got, ok, e := y.Look(2, 1); !reflect.DeepEqual(got, want) || !ok || e != api.OK {
			t.Error(got)
		}
	}
	counts(t, x, 1, 2, 0)
	counts(t, c, 1, 1, 0)
	c.Keep(api.Reply{Session: 2, ID: 2})
	x.Keep(api.Reply{Session: 1, ID: 2})
	if x.Last(2) != 1 || c.Last(1) != 0 {
		t.Error("they know of each other")
	}
}

func TestLoad(t *testing.T) {
	l := []api.Reply{{Session: 1, ID: 1}, {Session: 3, ID: 1 << 30, Text: "x"}, {Session: 8, ID: 7}}
	x, e := session.Load(l)
	if e != api.OK || !reflect.DeepEqual(x.All(), l) {
		t.Error(e)
	}
	counts(t, x, 0, 0, 0)
	for i, l := range [][]api.Reply{{{Session: 0, ID: 1}}, {{Session: 9, ID: 1}}, {{Session: 1, ID: 0}}, {{Session: 1, ID: 1<<30 + 1}}, {{Session: 2, ID: 1}, {Session: 1, ID: 1}}, {{Session: 2, ID: 1}, {Session: 2, ID: 2}}} {
		if x, e := session.Load(l); x != nil || e != api.ErrSession {
			t.Error(i, e)
		}
	}
	if x, e := session.Load(nil); e != api.OK || len(x.All()) != 0 {
		t.Error(e)
	}
}
