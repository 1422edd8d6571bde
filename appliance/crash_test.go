package appliance_test

import (
	"bytes"
	"fmt"
	"math/rand"
	"reflect"
	"slices"
	"strings"
	"testing"

	"undercroft/api"
	"undercroft/appliance"
	"undercroft/frame"
)

func TestTrouble(t *testing.T) {
	r := fresh(t, 4096)
	r.errs(0, api.Request{Verb: api.VerbCreate, Name: "tank/a"})
	r.p.Cut(1)
	r.errs(api.ErrDown, api.Request{Verb: api.VerbMkdir, Name: "tank/a", Path: "/x"})
	closed := func() {
		t.Helper()
		for _, q := range []api.Request{{Session: 1, ID: r.id, Verb: 1}, {Session: 2, ID: 1, Verb: 31}, {}} {
			if a := r.a.Ask(q); !reflect.DeepEqual(a, api.Reply{Err: api.ErrState}) {
				t.Error(a)
			}
		}
		is(t, r.a.Checkpoint(), api.ErrState)
	}
	closed()
	r.p.Up(nil)
	closed()
	is(t, r.again(), api.OK)
	r.counts(1, 1)
	r.d[0].Fail()
	r.errs(0, api.Request{Verb: api.VerbMkdir, Name: "tank/a", Path: "/x"})
	r.d[1].Fail()
	r.errs(api.ErrIO, api.Request{Verb: api.VerbMkdir, Name: "tank/a", Path: "/y"})
	closed()
	f := fresh(t, 4096)
	f.errs(0, api.Request{Verb: api.VerbCreate, Name: "tank/a"})
	f.d[0].Fail()
	f.d[1].Fail()
	is(t, f.a.Checkpoint(), api.ErrIO)
	is(t, f.a.Checkpoint(), api.ErrState)
	g := fresh(t, 4096) // the power goes out in the checkpoint that a full log makes
	g.errs(0, api.Request{Verb: api.VerbCreate, Name: "tank/a"})
	g.errs(0, api.Request{Verb: api.VerbMakeFile, Name: "tank/a", Path: "/f"})
	w := api.Request{Verb: api.VerbWrite, Name: "tank/a", Path: "/f", Data: make([]byte, 2048)}
	for logged, n := 0, 0; ; n++ {
		logged = g.a.Machine().Logged
		if 88*2+n*88*32 > api.LogSize-88*40 { // the next ones do not fit
			g.p.Cut(75)
		}
		if a := g.ask(w); a.Err == api.ErrDown {
			g.counts(logged, g.a.Flushed())
			break
		} else if a.Err != api.OK || n > 20 {
			t.Fatal(a.Err, n)
		}
	}
	if a := g.a.Ask(w); !reflect.DeepEqual(a, api.Reply{Err: api.ErrState}) {
		t.Error(a)
	}
	g.p.Up(nil)
	is(t, g.again(), api.OK)
}

// TestWiped opens where a record is not whole: nothing of it is there any more, whatever happens next.
func TestWiped(t *testing.T) {
	r := fresh(t, 4096)
	r.errs(0, api.Request{Verb: api.VerbCreate, Name: "tank/a"})
	r.errs(0, api.Request{Verb: api.VerbMakeFile, Name: "tank/a", Path: "/f", Item: "sync"})
	r.errs(0, api.Request{Verb: api.VerbWrite, Name: "tank/a", Path: "/f", Data: bytes.Repeat([]byte{7}, 600)})
	stay := make([]bool, r.p.Waiting())
	for i := range stay {
		stay[i] = i > 5 // its first pieces are lost
	}
	r.p.Up(stay)
	is(t, r.again(), api.OK)
	r.counts(2, 2)
	r.p.Up(nil)
	region, e := r.st.Tank().LogRead(0, api.LogSize)
	if e != api.OK || bytes.Contains(region, []byte{7, 7, 7}) {
		t.Error("it is there still", e)
	}
	for _, cut := range []int{0, 700, 1300} { // opening may come to trouble
		r.p.Cut(cut)
		if e := r.again(); e != api.ErrDown && e != api.OK {
			t.Error(cut, e)
		}
		r.p.Up(nil)
	}
	is(t, r.again(), api.OK)
	r.counts(2, 2)
	p := pool(t, api.Mirror, 2, 2048)
	p.p.Cut(256*2 + 5) // behind the wiping
	if a, e := appliance.New(p.st, "tank", 3); a != nil || e != api.ErrDown {
		t.Error(e)
	}
}

// TestExact fills the machine to the last byte, with a take in it.
func TestExact(t *testing.T) {
	r := fresh(t, 2048)
	limit := r.a.Machine().Cap
	r.errs(0, api.Request{Verb: api.VerbCreate, Name: "tank/a"})
	r.errs(0, api.Request{Verb: api.VerbTake, Name: "tank/take"})
	_, b := flow(t)
	r.ask(api.Request{Verb: api.VerbFeed, Name: "tank/take", Data: b[:5+int(b[1])+32]})
	r.errs(0, api.Request{Verb: api.VerbSet, Name: "tank/a", Item: "prop", Other: "value"})
	r.errs(0, api.Request{Verb: api.VerbSnapshot, Name: "tank", Item: "snap"})
	r.errs(0, api.Request{Verb: api.VerbBookmark, Name: "tank", Item: "snap", Other: "mark"})
	for _, p := range []string{"/0", "/1", "/2", "/3", "/x", "/y"} {
		r.errs(0, api.Request{Verb: api.VerbMakeFile, Name: "tank/a", Path: p})
	}
	write := func(path string, at, many int) api.Errno {
		return r.ask(api.Request{Verb: api.VerbWrite, Name: "tank/a", Path: path, At: at, Data: bytes.Repeat([]byte{1}, many)}).Err
	}
	is(t, write("/x", 0, 1), api.OK)
	is(t, write("/y", 0, 1), api.OK)
	left := func() int {
		m := r.a.Machine()
		n := 2048
		for _, d := range m.Grove.Datasets {
			n += 64 + len(d.Name)
			for _, c := range d.Cells {
				n += 16 + len(c.Data)
			}
		}
		n += 8 + len("prop") + len("value") + 32 + len("snap") + 24 + len("mark")
		for _, x := range m.Takes {
			n += 16 + len(x.Saved)
		}
		return limit - n
	}
	for i := 0; left() >= 272; i++ {
		is(t, write("/"+string(rune('0'+i/32)), i%32*256, 256), api.OK)
	}
	n := left()
	if n > 255 {
		is(t, write("/y", 1, 200), api.OK)
		n -= 200
	}
	is(t, write("/x", 1, n+1), api.ErrNoSpace)
	is(t, write("/x", 1, n), api.OK)
	if left() != 0 {
		t.Error(left())
	}
	is(t, r.a.Checkpoint(), api.OK)
	is(t, r.again(), api.OK)
	is(t, write("/x", 1+n, 1), api.ErrNoSpace)
	r.errs(api.ErrNoSpace, api.Request{Verb: api.VerbTake, Name: "a"})
	r.errs(0, api.Request{Verb: api.VerbDrop, Name: "tank/take"})
	r.errs(0, api.Request{Verb: api.VerbTake, Name: "a"})
}

func TestDo(t *testing.T) {
	r := fresh(t, 4096)
	q, _ := frame.Request(api.Request{Session: 2, ID: 3, Verb: api.VerbDatasets})
	a, e := frame.ReadReply(r.a.Do(q))
	if e != api.OK || !reflect.DeepEqual(norm(a), norm(api.Reply{Session: 2, ID: 3, List: []string{"tank"}})) {
		t.Error(a, e)
	}
	for _, b := range [][]byte{nil, q[1:], append(bytes.Clone(q), 0), make([]byte, 99), r.a.Do(q)} {
		if a, e := frame.ReadReply(r.a.Do(b)); e != api.OK || !reflect.DeepEqual(norm(a), norm(api.Reply{Err: api.ErrRequest})) {
			t.Error(a, e)
		}
	}
}

// TestCap fills the machine until it would weigh too much.
func TestCap(t *testing.T) {
	r := fresh(t, 2048)
	limit := r.a.Machine().Cap
	r.errs(0, api.Request{Verb: api.VerbCreate, Name: "tank/a"})
	weight := func() int {
		n := 2048
		m := r.a.Machine()
		for _, d := range m.Grove.Datasets {
			n += 64 + len(d.Name)
			for _, p := range d.Props {
				n += 8 + len(p.Name) + len(p.Value)
			}
			for _, x := range d.Marks {
				n += 24 + len(x.Name)
			}
			l := [][]api.Cell{d.Cells}
			for _, s := range d.Snaps {
				n += 32 + len(s.Name)
				l = append(l, s.Cells)
			}
			for _, c := range slices.Concat(l...) {
				n += 16 + len(c.Data)
			}
		}
		for _, x := range m.Takes {
			n += 16 + len(x.Saved)
		}
		return n
	}
	refused := 0
	for i := range 60 {
		path := fmt.Sprint("/", i%8)
		r.ask(api.Request{Verb: api.VerbMakeFile, Name: "tank/a", Path: path})
		before, logged := r.a.Machine(), r.a.Machine().Logged
		a := r.ask(api.Request{Verb: api.VerbWrite, Name: "tank/a", Path: path, At: i / 8 * 1000, Data: bytes.Repeat([]byte{byte(i + 1)}, 1000)})
		m := r.a.Machine()
		if m.Logged != logged+1 {
			t.Error("not logged")
		}
		if a.Err == api.ErrNoSpace {
			refused++
			m.Logged, m.Replies = before.Logged, before.Replies
			if !reflect.DeepEqual(m, before) {
				t.Fatal("changed")
			}
		} else if a.Err != api.OK {
			t.Fatal(a.Err)
		}
		if w := weight(); w > limit || a.Err == api.OK && w < limit/30 {
			t.Fatal(w, limit)
		}
	}
	if refused < 5 {
		t.Error(refused)
	}
	r.errs(api.ErrNoSpace, api.Request{Verb: api.VerbSnapshot, Name: "tank/a", Item: "s"})
	r.errs(0, api.Request{Verb: api.VerbTruncate, Name: "tank/a", Path: "/0"}) // lighter is never refused
	r.errs(0, api.Request{Verb: api.VerbTake, Name: "tank/b"})
	room := limit - weight() // of stream bytes
	_, b := flow(t)
	if room < len(b) {
		end := 0
		for {
			n := 5 + int(b[end+1]) + int(b[end+2])<<8 + 32
			if end+n > room {
				r.errs(api.ErrNoSpace, api.Request{Verb: api.VerbFeed, Name: "tank/b", Data: b[end : end+n]})
				break
			}
			r.answers(api.Request{Verb: api.VerbFeed, Name: "tank/b", Data: b[end : end+n]}, api.Reply{Number: end + n})
			end += n
		}
		if m := r.a.Machine(); m.Takes[0].Token.Bytes != end {
			t.Error(m.Takes[0].Token, end)
		}
	}
	is(t, r.a.Checkpoint(), api.OK)
	before := r.a.Machine()
	is(t, r.again(), api.OK)
	if !reflect.DeepEqual(r.a.Machine(), before) {
		t.Error("not the same")
	}
}

// script are requests of three sessions, some of them told to be flushed.
func script(seed int64) []api.Request {
	r := rand.New(rand.NewSource(seed))
	l := []api.Request{{Verb: api.VerbCreate, Name: "tank/a"}, {Verb: api.VerbMakeFile, Name: "tank/a", Path: "/f"}, {Verb: api.VerbCreate, Name: "tank/v", Many: 1024}}
	for range 45 {
		q := api.Request{Name: "tank/a", Path: "/" + string(rune('e'+r.Intn(3))), Many: r.Intn(500)}
		if r.Intn(5) == 0 {
			q.Item = "sync"
		}
		switch r.Intn(10) {
		case 0:
			q.Verb = api.VerbMakeFile
		case 1, 2, 3:
			q.Verb, q.At, q.Data = api.VerbWrite, r.Intn(600), make([]byte, r.Intn(1500))
			r.Read(q.Data)
		case 4:
			q.Verb, q.Name, q.Data = api.VerbVolWrite, "tank/v", []byte("volume")
		case 5:
			q.Verb, q.Item, q.Many = api.VerbSnapshot, "s"+fmt.Sprint(r.Intn(9)), 0
		case 6:
			q.Verb = api.VerbTruncate
		case 7:
			q.Verb = api.VerbSync
		case 8:
			q.Verb = api.VerbRead
		case 9:
			q.Verb, q.Other = api.VerbLink, q.Path+"x"
		}
		l = append(l, q)
	}
	ids := [4]int{}
	for i := range l {
		s := 1 + r.Intn(3)
		ids[s] += 1 + r.Intn(3)
		l[i].Session, l[i].ID = s, ids[s]
	}
	return l
}

// TestCrashes lets the power go out at many writes; what is found is what the first requests made.
func TestCrashes(t *testing.T) {
	for seed := int64(1); seed <= 3; seed++ {
		kind, leaves, sectors := api.Mirror, 2, 2200
		if seed == 2 {
			kind, leaves, sectors = api.Parity, 3, 1300
		}
		begin := func() *rig {
			r := pool(t, kind, leaves, sectors)
			a, e := appliance.New(r.st, "tank", 3)
			is(t, e, api.OK)
			r.a = a
			return r
		}
		l := script(seed)
		plain := begin()
		states := []api.Machine{plain.a.Machine()}
		for i, q := range l {
			if i == 20 {
				is(t, plain.a.Checkpoint(), api.OK)
			}
			plain.a.Ask(q)
			if m := plain.a.Machine(); m.Logged == len(states) {
				states = append(states, m)
			}
		}
		r := rand.New(rand.NewSource(seed))
		for cut, out := r.Intn(9), true; out; cut += 1 + r.Intn(25) {
			x := begin()
			x.p.Cut(cut)
			out = false
			sure := 0
			for i, q := range l {
				if i == 20 && x.a.Checkpoint() != api.OK {
					out = true
					break
				}
				a := x.a.Ask(q)
				if a.Err == api.ErrDown {
					out = true
					break
				}
				sure = x.a.Flushed()
			}
			sure = max(sure, x.a.Flushed())
			most := x.a.Machine().Logged + 1
			for try := range 2 {
				stay := make([]bool, x.p.Waiting())
				for i := range stay {
					stay[i] = r.Intn(2) == 0
				}
				x.p.Up(stay)
				if try == 0 {
					x.p.Cut(r.Intn(1200))
					x.again()
				}
			}
			if e := x.again(); e != api.OK {
				t.Fatal("seed", seed, "cut", cut, e)
			}
			m := x.a.Machine()
			if m.Logged < sure || m.Logged > most || m.Logged >= len(states) || !reflect.DeepEqual(m, states[m.Logged]) || x.a.Flushed() != m.Logged {
				t.Fatal("seed", seed, "cut", cut, "logged", m.Logged, "sure", sure, "most", most)
			}
			for _, q := range l { // those that were lost are asked again, all others answered as they were
				if a := x.a.Ask(q); a.Err == api.ErrDown || a.Err == api.ErrState {
					t.Fatal(a)
				}
			}
			if m := x.a.Machine(); !reflect.DeepEqual(m.Grove, states[len(states)-1].Grove) {
				t.Fatal("seed", seed, "cut", cut, "not as without crashes")
			}
		}
	}
}

// TestFullLog asks so much that the log is full again and again.
func TestFullLog(t *testing.T) {
	r := fresh(t, 2048)
	r.errs(0, api.Request{Verb: api.VerbCreate, Name: "tank/a"})
	r.errs(0, api.Request{Verb: api.VerbMakeFile, Name: "tank/a", Path: "/f"})
	txg := r.st.Txg()
	for i := range 60 {
		r.errs(0, api.Request{Verb: api.VerbWrite, Name: "tank/a", Path: "/f", Data: bytes.Repeat([]byte{byte(i)}, 2048)})
		if i%10 == 9 {
			r.errs(0, api.Request{Verb: api.VerbSync})
			before := r.a.Machine()
			r.p.Up(nil)
			is(t, r.again(), api.OK)
			if !reflect.DeepEqual(r.a.Machine(), before) {
				t.Fatal(i)
			}
		}
	}
	if r.st.Txg() < txg+5 || r.st.Note() == 0 {
		t.Error(r.st.Txg(), txg)
	}
	if s := strings.Repeat("x", 241); r.a.Ask(api.Request{Session: 1, ID: 1 << 20, Verb: 1, Name: s}).Err != api.ErrRequest {
		t.Error("a long name")
	}
}
