package appliance_test

import (
	"bytes"
	"fmt"
	"reflect"
	"strings"
	"testing"

	"undercroft/api"
	"undercroft/appliance"
	"undercroft/disk"
	"undercroft/forest"
	"undercroft/frame"
	"undercroft/ilog"
	"undercroft/posix"
	"undercroft/send"
	"undercroft/store"
	"undercroft/sum"
	"undercroft/vdev"
)

func is(t *testing.T, got, want api.Errno) {
	t.Helper()
	if got != want {
		t.Errorf("%d, not %d", got, want)
	}
}

// rig is an appliance over disks.
type rig struct {
	t  *testing.T
	p  *disk.Power
	d  []*disk.Disk
	st *store.Store
	a  *appliance.Appliance
	id int
}

func pool(t *testing.T, kind, leaves, sectors int) *rig {
	t.Helper()
	r := &rig{t: t, p: disk.NewPower()}
	for range leaves {
		d, _ := disk.New(r.p, sectors)
		r.d = append(r.d, d)
	}
	k, e := vdev.Create(1, []api.Top{{Kind: kind, Leaves: leaves, Sectors: sectors}}, r.d)
	is(t, e, api.OK)
	r.st, e = store.New(k)
	is(t, e, api.OK)
	return r
}

func fresh(t *testing.T, sectors int) *rig {
	t.Helper()
	r := pool(t, api.Mirror, 2, sectors)
	var e api.Errno
	r.a, e = appliance.New(r.st, "tank", 3)
	is(t, e, api.OK)
	return r
}

// again imports and opens all anew.
func (r *rig) again() api.Errno {
	k, e := vdev.Import(r.d)
	if e != api.OK {
		return e
	}
	if r.st, e = store.Open(k); e != api.OK {
		return e
	}
	r.a, e = appliance.Open(r.st)
	return e
}

// ask asks with the next number.
func (r *rig) ask(q api.Request) api.Reply {
	r.id++
	q.Session, q.ID = 1, r.id
	a := r.a.Ask(q)
	if a.Session != 1 || a.ID != r.id {
		r.t.Errorf("%v: %v", q, a)
	}
	a.Session, a.ID = 0, 0
	return a
}

// answers asks, and holds the reply against one.
func (r *rig) answers(q api.Request, want api.Reply) {
	r.t.Helper()
	if a := r.ask(q); !reflect.DeepEqual(norm(a), norm(want)) {
		r.t.Errorf("%v:\n%v, not\n%v", q, a, want)
	}
}

func norm(a api.Reply) api.Reply {
	a.List = append([]string{}, a.List...)
	a.Data = append([]byte{}, a.Data...)
	return a
}

func (r *rig) errs(e api.Errno, q api.Request) {
	r.t.Helper()
	r.answers(q, api.Reply{Err: e})
}

func (r *rig) counts(logged, flushed int) {
	r.t.Helper()
	if l, f := r.a.Machine().Logged, r.a.Flushed(); l != logged || f != flushed {
		r.t.Errorf("logged %d, flushed %d; not %d, %d", l, f, logged, flushed)
	}
}

func TestExample(t *testing.T) {
	r := fresh(t, 4096)
	r.errs(0, api.Request{Verb: api.VerbCreate, Name: "tank/a"})
	r.counts(1, 1)
	q := api.Request{Verb: api.VerbMakeFile, Name: "tank/a", Path: "/f", Many: 420}
	r.errs(0, q)
	r.counts(2, 1)
	r.id--
	r.errs(0, q)
	r.counts(2, 1)
	r.errs(0, api.Request{Verb: api.VerbWrite, Name: "tank/a", Path: "/f", Data: []byte("ab"), Item: "sync"})
	r.counts(3, 3)
	read := api.Request{Verb: api.VerbRead, Name: "tank/a", Path: "/f", Many: 9}
	r.answers(read, api.Reply{Data: []byte("ab")})
	before := r.a.Machine()
	r.p.Up(nil)
	is(t, r.again(), api.OK)
	r.counts(3, 3)
	if !reflect.DeepEqual(r.a.Machine(), before) {
		t.Error("not the same machine")
	}
	r.answers(read, api.Reply{Data: []byte("ab")})
	r.errs(api.ErrRequest, api.Request{Verb: 99})
	r.errs(api.ErrArg, api.Request{Verb: api.VerbDestroy, Name: "tank"})
	r.counts(4, 4)
}

func TestNew(t *testing.T) {
	r := pool(t, api.Mirror, 2, 2048)
	for _, c := range []struct {
		name string
		seed int
		e    api.Errno
	}{{"Tank", -1, 170}, {"a/b", 0, 170}, {"tank", -1, 1}, {"tank", 1 << 20, 1}} {
		if a, e := appliance.New(r.st, c.name, c.seed); a != nil || e != c.e {
			t.Error(c, e)
		}
	}
	if a, e := appliance.Open(r.st); a != nil || e != api.ErrState {
		t.Error(e)
	}
	r.st.Write(1, 0, []byte("UCAP"))
	if a, e := appliance.New(r.st, "tank", 3); a != nil || e != api.ErrState {
		t.Error(e)
	}
	if a, e := appliance.Open(r.st); a != nil || e != api.ErrState {
		t.Error(e)
	}
	r.st.Drop(1)
	r.st.LogWrite(500, []byte("old"))
	a, e := appliance.New(r.st, "tank", 3)
	is(t, e, api.OK)
	if m := a.Machine(); m.Cap != 29696 || m.Logged != 0 || len(m.Replies) != 0 || len(m.Takes) != 0 || !reflect.DeepEqual(m.Grove, api.Grove{Room: 1 << 40, Seed: 3, Datasets: []api.Dataset{{Name: "tank", Kind: 1}}}) {
		t.Error(m)
	}
	if b, _ := r.st.LogRead(0, api.LogSize); !bytes.Equal(b, make([]byte, api.LogSize)) || r.st.Note() != 0 || r.st.Txg() != 2 || a.Flushed() != 0 {
		t.Error("log")
	}
	if a, e := appliance.New(r.st, "tank", 3); a != nil || e != api.ErrState {
		t.Error(e)
	}
	for sectors, want := range map[int]api.Errno{292 + 32*20: api.ErrNoSpace, 292 + 32*21: api.OK} { // rooms 10 and 11
		r = pool(t, api.Mirror, 2, sectors)
		if a, e := appliance.New(r.st, "tank", 3); e != want || (a == nil) != (e != api.OK) {
			t.Error(sectors, e)
		}
	}
	r = pool(t, api.Mirror, 2, 2048)
	r.p.Cut(5)
	if a, e := appliance.New(r.st, "tank", 3); a != nil || e != api.ErrDown {
		t.Error(e)
	}
}

func TestVerbs(t *testing.T) {
	r := fresh(t, 4096)
	type q = api.Request
	type a = api.Reply
	for i, c := range []struct {
		q q
		a a
	}{
		{q{Verb: 1, Name: "tank/d"}, a{}}, {q{Verb: 1, Name: "tank/v", Many: 512}, a{}}, {q{Verb: 1, Name: "!", Many: 5}, a{Err: 1}}, {q{Verb: 1, Name: "!"}, a{Err: 170}}, {q{Verb: 1, Name: "tank/d"}, a{Err: 172}},
		{q{Verb: 14, Name: "tank/d", Path: "/m", Many: 448}, a{}}, {q{Verb: 14, Name: "tank/d", Path: "/m"}, a{Err: 182}}, {q{Verb: 14, Name: "tank/v", Path: "/m"}, a{Err: 175}}, {q{Verb: 14, Name: "tank/x", Path: "/m"}, a{Err: 171}}, {q{Verb: 14, Name: "tank", Path: "/m"}, a{Err: 187}},
		{q{Verb: 15, Name: "tank/d", Path: "/m/f", Many: 420}, a{}}, {q{Verb: 16, Name: "tank/d", Path: "/m/f", At: 2, Data: []byte("xyz")}, a{}}, {q{Verb: 16, Name: "tank/d", Path: "/m", Data: []byte("xyz")}, a{Err: 184}}, {q{Verb: 17, Name: "tank/d", Path: "/m/f", Many: 4}, a{}},
		{q{Verb: 18, Name: "tank/d", Path: "/m/f", Other: "/g"}, a{}}, {q{Verb: 21, Name: "tank/d", Path: "/g", Many: 7}, a{}}, {q{Verb: 33, Name: "tank/d", Path: "/g", Many: 1 << 40}, a{Data: []byte("\x00\x00xy")}}, {q{Verb: 33, Name: "tank/d", Path: "/x"}, a{Err: 181}}, {q{Verb: 33, Name: "tank/v", Path: "/x"}, a{Err: 175}}, {q{Verb: 33, Name: "tank/v", Item: "s", Path: "/x"}, a{Err: 171}},
		{q{Verb: 35, Name: "tank/d", Path: "/g"}, a{Number: 4, List: []string{"3", "2", "7", "2"}}}, {q{Verb: 35, Name: "tank/d", Path: "g"}, a{Err: 180}}, {q{Verb: 35, Name: "tank/v", Path: "/g"}, a{Err: 175}}, {q{Verb: 35, Name: "tank/d", Path: "/no"}, a{Err: 181}}, {q{Verb: 36, Name: "tank/v", Many: 2048}, a{Err: 186}}, {q{Verb: 36, Name: "tank/x", Many: 1}, a{Err: 171}}, {q{Verb: 34, Name: "tank/d", Path: "/"}, a{List: []string{"g 3", "m 2"}}}, {q{Verb: 34, Name: "tank/d", Path: "/g"}, a{Err: 183}}, {q{Verb: 34, Name: "tank/d", Path: "/", Item: "s"}, a{Err: 171}},
		{q{Verb: 19, Name: "tank/d", Path: "/g", Other: "/h"}, a{}}, {q{Verb: 20, Name: "tank/d", Path: "/h"}, a{}}, {q{Verb: 20, Name: "tank/d", Path: "/h"}, a{Err: 181}}, {q{Verb: 22, Name: "tank/v", At: 510, Data: []byte("ab")}, a{}}, {q{Verb: 22, Name: "tank/v", At: 511, Data: []byte("ab")}, a{Err: 186}}, {q{Verb: 22, Name: "tank/d"}, a{Err: 175}},
		{q{Verb: 36, Name: "tank/v", At: 509, Many: 3}, a{Data: []byte("\x00ab")}}, {q{Verb: 36, Name: "tank/v", At: 509, Many: 4}, a{Err: 186}}, {q{Verb: 36, Name: "tank/v", Many: 2049}, a{Err: 2}}, {q{Verb: 36, Name: "tank/d", Many: 1}, a{Err: 175}}, {q{Verb: 23, Name: "tank/v", At: 511, Many: 1}, a{}}, {q{Verb: 36, Name: "tank/v", At: 510, Many: 2}, a{Data: []byte("a\x00")}},
		{q{Verb: 4, Name: "tank", Item: "s", Many: 1}, a{}}, {q{Verb: 4, Name: "tank/d", Item: "t"}, a{}}, {q{Verb: 32, Name: "tank/d"}, a{List: []string{"s 3145730 13", "t 3145732 14"}}}, {q{Verb: 32, Name: "tank/x"}, a{Err: 171}}, {q{Verb: 32, Name: "tank/v"}, a{List: []string{"s 3145731 13"}}},
		{q{Verb: 16, Name: "tank/d", Path: "/m/f", Data: []byte("new")}, a{}}, {q{Verb: 33, Name: "tank/d", Item: "t", Path: "/m/f", Many: 9}, a{Data: []byte("\x00\x00xy")}}, {q{Verb: 6, Name: "tank/d", Item: "s"}, a{Err: 177}}, {q{Verb: 6, Name: "tank/d", Item: "t"}, a{}}, {q{Verb: 33, Name: "tank/d", Path: "/m/f", Many: 1}, a{Data: []byte("\x00")}},
		{q{Verb: 7, Name: "tank/d", Item: "s", Other: "tank/e"}, a{}}, {q{Verb: 5, Name: "tank/d", Item: "s"}, a{Err: 174}}, {q{Verb: 8, Name: "tank/e"}, a{}}, {q{Verb: 8, Name: "tank/e"}, a{Err: 178}}, {q{Verb: 9, Name: "tank/d", Item: "t", Other: "m"}, a{}}, {q{Verb: 10, Name: "tank/d", Item: "x"}, a{Err: 171}}, {q{Verb: 10, Name: "tank/d", Item: "m"}, a{}},
		{q{Verb: 11, Name: "tank", Item: "zip", Other: "on"}, a{}}, {q{Verb: 29, Name: "tank/d", Item: "zip"}, a{Text: "on", List: []string{"tank"}}}, {q{Verb: 29, Name: "tank/d", Item: "zap"}, a{Err: 171}}, {q{Verb: 12, Name: "tank/v", Many: 1}, a{Err: 176}}, {q{Verb: 13, Name: "tank/v", Many: 5000}, a{}}, {q{Verb: 30, Name: "tank/v"}, a{Number: 36 + 288, List: []string{"324"}}}, {q{Verb: 30, Name: "tank/x"}, a{Err: 171}},
		{q{Verb: 31}, a{List: []string{"tank", "tank/d", "tank/e", "tank/v"}}}, {q{Verb: 3, Name: "tank/e", Other: "tank/f"}, a{}}, {q{Verb: 5, Name: "tank/d", Item: "t"}, a{}}, {q{Verb: 2, Name: "tank/d"}, a{}}, {q{Verb: 28, Name: "whatever"}, a{}}, {q{Verb: 39}, a{Err: 250}}, {q{Verb: 255}, a{Err: 250}},
	} {
		if got := r.ask(c.q); !reflect.DeepEqual(norm(got), norm(c.a)) {
			t.Errorf("%d: %v: %v, not %v", i, c.q, got, c.a)
		}
	}
}

// TestLaid looks at all that a checkpoint must lay down.
func TestLaid(t *testing.T) {
	r := fresh(t, 4096)
	if r.p.Waiting() != 0 {
		t.Error("not flushed")
	}
	for _, q := range []api.Request{
		{Verb: api.VerbCreate, Name: "tank/a"}, {Verb: api.VerbCreate, Name: "tank/v", Many: 512}, {Verb: api.VerbVolWrite, Name: "tank/v", At: 5, Data: []byte("vol")}, {Verb: api.VerbMakeFile, Name: "tank/a", Path: "/f", Many: 9}, {Verb: api.VerbWrite, Name: "tank/a", Path: "/f", At: 3, Data: []byte("data")},
		{Verb: api.VerbSnapshot, Name: "tank", Item: "s", Many: 1}, {Verb: api.VerbSnapshot, Name: "tank/a", Item: "t"}, {Verb: api.VerbBookmark, Name: "tank/a", Item: "s", Other: "m1"}, {Verb: api.VerbBookmark, Name: "tank/a", Item: "t", Other: "m2"}, {Verb: api.VerbClone, Name: "tank/a", Item: "t", Other: "tank/c"},
		{Verb: api.VerbSet, Name: "tank", Item: "zip", Other: "on"}, {Verb: api.VerbSet, Name: "tank/a", Item: "zap", Other: "off or so"}, {Verb: api.VerbQuota, Name: "tank/a", Many: 1 << 39}, {Verb: api.VerbReserve, Name: "tank/v", Many: 1 << 38}, {Verb: api.VerbTake, Name: "tank/t"}, {Verb: api.VerbTake, Name: "tank/u"},
	} {
		r.errs(0, q)
	}
	r.a.Ask(api.Request{Session: 8, ID: 1 << 30, Verb: api.VerbTake, Name: "tank/t"})
	before := r.a.Machine()
	is(t, r.a.Checkpoint(), api.OK)
	for range 2 {
		r.p.Up(nil)
		is(t, r.again(), api.OK)
		if m := r.a.Machine(); !reflect.DeepEqual(m, before) {
			t.Errorf("%v, not\n%v", m, before)
		}
		if r.p.Waiting() != 0 {
			t.Error("not flushed")
		}
	}
	whole, e := r.st.Read(1, 0, 1<<20)
	is(t, e, api.OK)
	try := func(b []byte, want api.Errno) {
		t.Helper()
		r.st.Drop(1)
		r.st.Write(1, 0, b)
		is(t, r.st.Commit(r.st.Note()), api.OK)
		if a, e := appliance.Open(r.st); e != want || (a == nil) != (e != api.OK) {
			t.Error(e)
		}
	}
	try(whole[:len(whole)-1], api.ErrState)
	try(append(bytes.Clone(whole), 0), api.ErrState)
	try(append([]byte("X"), whole[1:]...), api.ErrState)
	try(nil, api.ErrState)
	for i := 4; i < len(whole); i += 3 { // whatever stands there, it is answered
		b := bytes.Clone(whole)
		b[i] ^= 0xff
		r.st.Drop(1)
		r.st.Write(1, 0, b)
		appliance.Open(r.st)
	}
	try(whole, api.OK)
}

// TestStrangeLog opens where records stand in the log that no appliance has written.
func TestStrangeLog(t *testing.T) {
	for _, q := range []api.Request{{Session: 1, ID: 1, Verb: 99}, {Session: 1, ID: 1, Verb: api.VerbDatasets}, {Session: 1, ID: 1, Verb: api.VerbCreate, Name: "tank/a"}, {}} {
		r := fresh(t, 2048)
		l, e := ilog.New(0)
		is(t, e, api.OK)
		b, _ := frame.Request(q)
		at, p, _ := l.Append(b)
		is(t, r.st.LogWrite(at, p), api.OK)
		want := api.ErrState
		if q.Verb == api.VerbCreate {
			want = api.OK
		}
		if a, e := appliance.Open(r.st); e != want || (a == nil) != (e != api.OK) {
			t.Error(q, e)
		} else if a != nil && len(a.Machine().Grove.Datasets) != 2 {
			t.Error(a.Machine())
		}
	}
}

// TestMany lists as many names as a reply may have, and one more.
func TestMany(t *testing.T) {
	r := fresh(t, 8192)
	r.errs(0, api.Request{Verb: api.VerbCreate, Name: "tank/a"})
	r.errs(0, api.Request{Verb: api.VerbMakeFile, Name: "tank/a", Path: "/000"})
	for i := 1; i < 240; i++ {
		r.errs(0, api.Request{Verb: api.VerbLink, Name: "tank/a", Path: "/000", Other: fmt.Sprintf("/%03d", i)})
	}
	if a := r.ask(api.Request{Verb: api.VerbList, Name: "tank/a", Path: "/"}); a.Err != api.OK || len(a.List) != 240 || a.List[239] != "239 2" {
		t.Error(a.Err, len(a.List))
	}
	r.errs(0, api.Request{Verb: api.VerbLink, Name: "tank/a", Path: "/000", Other: "/x"})
	r.errs(api.ErrLong, api.Request{Verb: api.VerbList, Name: "tank/a", Path: "/"})
}

// flow has a source, and streams from it.
func flow(t *testing.T) (*rig, []byte) {
	t.Helper()
	f, _ := forest.New("src", 1<<30, 9)
	x := posix.New()
	x.Create("/f", 0)
	x.Write("/f", 0, bytes.Repeat([]byte("data"), 900))
	f.Create("src/d", 1, x.Cells())
	f.Snapshot("src/d", "s", false)
	b, e := send.Stream(f, "src/d", "s", "", false)
	is(t, e, api.OK)
	return fresh(t, 4096), b
}

func TestStreams(t *testing.T) {
	r, b := flow(t)
	type q = api.Request
	r.errs(api.ErrName, q{Verb: api.VerbTake, Name: "X"})
	for i := range 4 {
		r.errs(api.OK, q{Verb: api.VerbTake, Name: fmt.Sprint("tank/", 4-i)})
	}
	r.errs(api.ErrExists, q{Verb: api.VerbTake, Name: "tank/1"})
	r.errs(api.ErrMany, q{Verb: api.VerbTake, Name: "tank/5"})
	for _, v := range []int{api.VerbFeed, api.VerbCommit, api.VerbDrop, api.VerbToken} {
		r.errs(api.ErrToken, q{Verb: v, Name: "tank/5"})
	}
	open := []string{"0", "0", strings.Repeat("0", 64), "open"}
	r.answers(q{Verb: api.VerbToken, Name: "tank/1"}, api.Reply{List: open})
	r.errs(api.ErrStream, q{Verb: api.VerbCommit, Name: "tank/1"})
	r.answers(q{Verb: api.VerbFeed, Name: "tank/1", Data: b[:20]}, api.Reply{}) // no whole record: it does not wait
	r.answers(q{Verb: api.VerbFeed, Name: "tank/1", Data: b[20:60]}, api.Reply{Err: api.ErrRecord})
	n := 5 + int(b[1]) + 32
	r.answers(q{Verb: api.VerbFeed, Name: "tank/1", Data: b[:n+9]}, api.Reply{Number: n})
	r.answers(q{Verb: api.VerbFeed, Name: "tank/1", Data: append(bytes.Clone(b[n:n+5+int(b[n+1])+32]), 99, 9, 9, 9, 9)}, api.Reply{Err: api.ErrRecord, Number: n + 5 + int(b[n+1]) + 32})
	at := n + 5 + int(b[n+1]) + 32
	if m := r.a.Machine(); len(m.Takes) != 4 || m.Takes[0].Name != "tank/1" || m.Takes[3].Name != "tank/4" || m.Takes[0].Token.Bytes != at || m.Takes[0].Token.Guid != 9<<20+1 || len(m.Takes[0].Saved) != at+8 {
		t.Error(m.Takes)
	}
	for at < len(b) {
		end := at
		for end < len(b) {
			next := end + 5 + int(b[end+1]) + int(b[end+2])<<8 + 32
			if next-at > 2048 {
				break
			}
			end = next
		}
		r.answers(q{Verb: api.VerbFeed, Name: "tank/1", Data: b[at:end]}, api.Reply{Number: end})
		at = end
	}
	tok := r.a.Machine().Takes[0].Token
	r.answers(q{Verb: api.VerbToken, Name: "tank/1"}, api.Reply{Number: len(b), List: []string{fmt.Sprint(tok.Records), fmt.Sprint(9<<20 + 1), sum.Print(tok.Sum), "whole"}})
	r.answers(q{Verb: api.VerbFeed, Name: "tank/1", Data: b[:n]}, api.Reply{Err: api.ErrRecordSum, Number: len(b)})
	before := r.a.Machine()
	r.st.LogFlush()
	r.p.Up(nil)
	is(t, r.again(), api.OK)
	if !reflect.DeepEqual(r.a.Machine(), before) {
		t.Error("takes are others")
	}
	is(t, r.a.Checkpoint(), api.OK)
	is(t, r.again(), api.OK)
	if !reflect.DeepEqual(r.a.Machine(), before) {
		t.Error("takes are others behind a checkpoint")
	}
	r.errs(api.OK, q{Verb: api.VerbCommit, Name: "tank/1"})
	r.errs(api.ErrToken, q{Verb: api.VerbCommit, Name: "tank/1"})
	r.answers(q{Verb: api.VerbRead, Name: "tank/1", Item: "s", Path: "/f", At: 3598, Many: 9}, api.Reply{Data: []byte("ta")})
	r.errs(api.OK, q{Verb: api.VerbDrop, Name: "tank/3"})
	if m := r.a.Machine(); len(m.Takes) != 2 || m.Takes[1].Name != "tank/4" {
		t.Error(m.Takes)
	}
	// what is sent is the stream, in pieces of whole records
	var all []byte
	for {
		a := r.ask(q{Verb: api.VerbSend, Name: "tank/1", Item: "s", At: len(all)})
		if a.Err != api.OK || len(a.Data) > 2048 || a.Number != len(b) {
			t.Fatal(a.Err, len(a.Data), a.Number)
		}
		if len(a.Data) == 0 {
			break
		}
		all = append(all, a.Data...)
	}
	if len(all) != len(b) || !bytes.Equal(all[:n], b[:n]) {
		t.Error(len(all), len(b))
	}
	for _, at := range []int{1, n - 1, n + 1, len(b) + 1, 1 << 40} {
		r.errs(api.ErrToken, q{Verb: api.VerbSend, Name: "tank/1", Item: "s", At: at})
	}
	r.errs(api.ErrNone, q{Verb: api.VerbSend, Name: "tank/1", Item: "x", At: 1})
	r.errs(api.ErrBase, q{Verb: api.VerbSend, Name: "tank/1", Item: "s", Other: "x"})
	r.errs(api.ErrBase, q{Verb: api.VerbSend, Name: "tank/1", Item: "s", Other: "@A"})
	r.errs(api.ErrBase, q{Verb: api.VerbSend, Name: "tank/1", Item: "s", Other: "#"})
	r.errs(api.ErrNone, q{Verb: api.VerbSend, Name: "tank/1", Item: "s", Other: "#m"})
	if a := r.ask(q{Verb: api.VerbSend, Name: "tank", Item: "s", Many: 1}); a.Err != api.ErrNone {
		t.Error(a)
	}
	r.errs(api.OK, q{Verb: api.VerbSnapshot, Name: "tank", Item: "all", Many: 1})
	alone := r.ask(q{Verb: api.VerbSend, Name: "tank", Item: "all"})
	deep := r.ask(q{Verb: api.VerbSend, Name: "tank", Item: "all", Many: 7})
	if alone.Err != api.OK || deep.Err != api.OK || alone.Number >= deep.Number || alone.Number != len(alone.Data) {
		t.Error(alone.Number, deep.Number)
	}
}

func TestSessions(t *testing.T) {
	r := fresh(t, 4096)
	ask := func(s, id, verb int, want api.Reply) {
		t.Helper()
		a := r.a.Ask(api.Request{Session: s, ID: id, Verb: verb, Name: "tank/a"})
		if !reflect.DeepEqual(norm(a), norm(want)) {
			t.Error(s, id, verb, a)
		}
	}
	create, datasets := api.VerbCreate, api.VerbDatasets
	ask(1, 5, create, api.Reply{Session: 1, ID: 5})
	ask(1, 5, api.VerbDestroy, api.Reply{Session: 1, ID: 5})
	ask(1, 4, create, api.Reply{Session: 1, ID: 4, Err: api.ErrStale})
	ask(2, 4, datasets, api.Reply{Session: 2, ID: 4, List: []string{"tank", "tank/a"}})
	ask(2, 4, create, api.Reply{Session: 2, ID: 4, List: []string{"tank", "tank/a"}})
	ask(2, 9, 99, api.Reply{Session: 2, ID: 9, Err: api.ErrRequest})
	ask(2, 5, create, api.Reply{Session: 2, ID: 5, Err: api.ErrExists})
	for _, c := range [][3]int{{0, 1, 1}, {9, 1, 1}, {1, 0, 1}, {1, 1<<30 + 1, 1}, {1, 9, 0}, {1, 9, 256}} {
		ask(c[0], c[1], c[2], api.Reply{Err: api.ErrRequest})
	}
	if a, b, c := r.a.Counts(); a != 3 || b != 2 || c != 1 {
		t.Error(a, b, c)
	}
	ask(2, 7, datasets, api.Reply{Session: 2, ID: 7, List: []string{"tank", "tank/a"}})
	m := r.a.Machine()
	if m.Logged != 2 || !reflect.DeepEqual(m.Replies, []api.Reply{{Session: 1, ID: 5}, {Session: 2, ID: 5, Err: api.ErrExists}}) {
		t.Error(m.Replies, m.Logged)
	}
	is(t, r.again(), api.OK)
	ask(1, 5, api.VerbDestroy, api.Reply{Session: 1, ID: 5})
	ask(2, 6, datasets, api.Reply{Session: 2, ID: 6, List: []string{"tank", "tank/a"}}) // 7 was none that is logged
	if a, b, c := r.a.Counts(); a != 1 || b != 1 || c != 0 {
		t.Error(a, b, c)
	}
}

func TestFlushed(t *testing.T) {
	r := fresh(t, 4096)
	r.errs(0, api.Request{Verb: api.VerbCreate, Name: "tank/a"})
	w := api.Request{Verb: api.VerbMkdir, Name: "tank/a", Path: "/x"}
	r.errs(0, w)
	r.errs(api.ErrThere, w)
	r.counts(3, 1)
	r.answers(api.Request{Verb: api.VerbDatasets, Item: "sync"}, api.Reply{List: []string{"tank", "tank/a"}})
	r.counts(3, 1)
	r.errs(0, api.Request{Verb: api.VerbSync, Name: "x"})
	r.counts(3, 3)
	r.errs(api.ErrThere, w)
	r.errs(api.ErrThere, w)
	is(t, r.a.Checkpoint(), api.OK)
	r.counts(5, 5)
	if r.st.Note() != 5 {
		t.Error(r.st.Note())
	}
	q := api.Request{Session: 1, ID: 77, Verb: api.VerbMkdir, Name: "tank/a", Path: "/y"}
	r.a.Ask(q)
	region, _ := r.st.LogRead(0, api.LogSize)
	f, _ := frame.Request(q)
	if _, l, e := ilog.Scan(5, region); e != api.OK || len(l) != 1 || !bytes.Equal(l[0], f) {
		t.Error("the log", e, len(l))
	}
	r.counts(6, 5)
	before := r.a.Machine()
	r.p.Up(nil) // the last one is gone
	is(t, r.again(), api.OK)
	r.counts(5, 5)
	q.ID = 78
	r.a.Ask(q)
	r.st.LogFlush()
	is(t, r.again(), api.OK)
	if m := r.a.Machine(); m.Logged != 6 || !reflect.DeepEqual(m.Grove, before.Grove) {
		t.Error(m.Logged)
	}
}
