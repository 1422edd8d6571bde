package replica_test

import (
	"bytes"
	"math/rand"
	"reflect"
	"strings"
	"testing"

	"undercroft/api"
	"undercroft/appliance"
	"undercroft/disk"
	"undercroft/replica"
	"undercroft/store"
	"undercroft/vdev"
)

func is(t *testing.T, got, want api.Errno) {
	t.Helper()
	if got != want {
		t.Errorf("%d, not %d", got, want)
	}
}

var job = api.Job{Name: "tank/d", Snap: "s", Base: "@r", Deep: true, To: "tank/c", Session: 2, First: 7}

func begun(t *testing.T, anew bool) *replica.Replica {
	t.Helper()
	j := job
	j.Anew = anew
	r, e := replica.New(j)
	is(t, e, api.OK)
	return r
}

func norm(q api.Request) api.Request { q.Data = append([]byte{}, q.Data...); return q }

// asks holds what is asked next against a request.
func asks(t *testing.T, r *replica.Replica, who int, want api.Request) {
	t.Helper()
	want.Session = 2
	q, w, ok := r.Next()
	again, _, _ := r.Next()
	want.ID = q.ID
	if !ok || w != who || !reflect.DeepEqual(norm(q), norm(want)) || !reflect.DeepEqual(again, q) {
		t.Errorf("%v of %d, not %v", q, w, want)
	}
}

// says answers what is asked.
func says(r *replica.Replica, a api.Reply) {
	q, who, _ := r.Next()
	a.Session, a.ID = q.Session, q.ID
	r.Hear(who, a)
}

func stands(t *testing.T, r *replica.Replica, state, has int, err api.Errno) {
	t.Helper()
	if s, h, e := r.State(); s != state || h != has || e != err {
		t.Errorf("%d %d %d, not %d %d %d", s, h, e, state, has, err)
	}
	q, who, ok := r.Next()
	if goes := state == api.JobGoes; ok != goes || !goes && (who != 0 || !reflect.DeepEqual(q, api.Request{})) {
		t.Error("Next", q, who, ok)
	}
}

var (
	askDrop  = api.Request{Verb: api.VerbDrop, Name: "tank/c"}
	askTake  = api.Request{Verb: api.VerbTake, Name: "tank/c"}
	askToken = api.Request{Verb: api.VerbToken, Name: "tank/c"}
	askCom   = api.Request{Verb: api.VerbCommit, Name: "tank/c"}
)

func askSend(at int) api.Request {
	return api.Request{Verb: api.VerbSend, Name: "tank/d", Item: "s", Other: "@r", Many: 1, At: at}
}

func askFeed(s string) api.Request {
	return api.Request{Verb: api.VerbFeed, Name: "tank/c", Data: []byte(s)}
}

func open(n int) api.Reply { return api.Reply{Number: n, List: []string{"1", "2", "x", "open"}} }

func TestNew(t *testing.T) {
	long := strings.Repeat("x", 241)
	for i, do := range []func(j *api.Job){func(j *api.Job) { j.Session = 0 }, func(j *api.Job) { j.Session = 9 }, func(j *api.Job) { j.First = 0 }, func(j *api.Job) { j.First = 1<<29 + 1 }, func(j *api.Job) { j.Name = long }, func(j *api.Job) { j.Snap = long }, func(j *api.Job) { j.Base = long }, func(j *api.Job) { j.To = long }} {
		j := job
		do(&j)
		if r, e := replica.New(j); r != nil || e != api.ErrReplica {
			t.Error(i, e)
		}
	}
	j := job
	j.First, j.Session, j.Name = 1<<29, 8, long[1:]
	if r, e := replica.New(j); e != api.OK {
		t.Error(e)
	} else if q, _, _ := r.Next(); q.ID != 1<<29 {
		t.Error(q)
	}
	if r, e := replica.New(api.Job{Session: 1, First: 1}); e != api.OK {
		t.Error(e)
	} else if q, who, ok := r.Next(); !ok || who != 1 || q.Session != 1 || q.ID != 1 {
		t.Error(q)
	}
	r := begun(t, false)
	asks(t, r, 1, askTake)
	r = begun(t, true)
	asks(t, r, 1, askDrop)
	if q, _, _ := r.Next(); q.ID != 7 {
		t.Error(q.ID)
	}
	stands(t, r, api.JobGoes, 0, api.OK)
}

func TestExample(t *testing.T) {
	r, e := replica.New(api.Job{Session: 1, First: 1, Anew: true})
	is(t, e, api.OK)
	next := func(verb, who, id int) {
		t.Helper()
		if q, w, ok := r.Next(); !ok || q.Verb != verb || w != who || q.ID != id || q.Session != 1 || q.At != 0 {
			t.Error(q, w, ok)
		}
	}
	next(api.VerbDrop, 1, 1)
	r.Hear(1, api.Reply{Session: 1, ID: 1, Err: api.ErrToken})
	next(api.VerbTake, 1, 2)
	r.Hear(0, api.Reply{Session: 1, ID: 2})
	next(api.VerbTake, 1, 2)
	r.Hear(1, api.Reply{Session: 1, ID: 2})
	next(api.VerbToken, 1, 3)
	r.Hear(1, api.Reply{Session: 1, ID: 3, List: []string{"0", "0", strings.Repeat("0", 64), "open"}})
	next(api.VerbSend, 0, 4)
	r.Hear(0, api.Reply{Session: 1, ID: 4})
	next(api.VerbToken, 1, 5)
	r.Hear(1, api.Reply{Session: 1, ID: 5, Err: api.ErrName})
	stands(t, r, api.JobFailed, 0, api.ErrName)
}

func TestSteps(t *testing.T) {
	r := begun(t, true)
	for _, c := range []struct {
		who int
		a   api.Reply
	}{{0, api.Reply{Session: 2, ID: 7}}, {2, api.Reply{Session: 2, ID: 7}}, {1, api.Reply{Session: 1, ID: 7}}, {1, api.Reply{Session: 2, ID: 6}}, {1, api.Reply{Session: 2, ID: 8}}, {1, api.Reply{Session: 2, ID: 7, Err: api.ErrIO}}, {1, api.Reply{Session: 2, ID: 7, Err: api.ErrDown}}, {1, api.Reply{Session: 2, ID: 7, Err: api.ErrState}}, {1, api.Reply{}}} {
		r.Hear(c.who, c.a)
		asks(t, r, 1, askDrop)
	}
	says(r, api.Reply{Err: api.ErrToken})
	asks(t, r, 1, askTake)
	if q, _, _ := r.Next(); q.ID != 8 {
		t.Error(q.ID)
	}
	says(r, api.Reply{Err: api.ErrExists})
	asks(t, r, 1, askToken)
	says(r, api.Reply{})
	asks(t, r, 0, askSend(0))
	data := []byte("abc")
	says(r, api.Reply{Data: data, Number: 99})
	data[0] = 'x'
	asks(t, r, 1, askFeed("abc"))
	q, _, _ := r.Next()
	q.Data[0] = 'y'
	asks(t, r, 1, askFeed("abc"))
	says(r, api.Reply{Number: 3})
	stands(t, r, api.JobGoes, 3, api.OK)
	asks(t, r, 1, askToken)
	says(r, open(3))
	asks(t, r, 0, askSend(3))
	says(r, api.Reply{Data: []byte("de")})
	says(r, api.Reply{Err: api.ErrToken})
	asks(t, r, 1, askTake)
	says(r, api.Reply{})
	says(r, api.Reply{Err: api.ErrToken})
	asks(t, r, 1, askTake)
	says(r, api.Reply{})
	says(r, api.Reply{Number: 5, List: []string{"whole"}})
	asks(t, r, 1, askCom)
	says(r, api.Reply{Err: api.ErrToken})
	asks(t, r, 1, askTake)
	says(r, api.Reply{})
	says(r, api.Reply{Number: 5, List: []string{"open", "whole"}})
	says(r, api.Reply{})
	stands(t, r, api.JobDone, 5, api.OK)
	r.Hear(1, api.Reply{Session: 2, ID: 99, Err: api.ErrArg})
	stands(t, r, api.JobDone, 5, api.OK)
}

func TestFails(t *testing.T) {
	walk := [][]api.Reply{nil, {{}}, {{}, {}}, {{}, {}, open(4)}, {{}, {}, open(4), {Data: []byte("x")}}, {{}, {}, {Number: 4, List: []string{"whole"}}}}
	for i, l := range walk {
		for _, e := range []api.Errno{api.ErrName, api.ErrExists, api.ErrToken, api.ErrStale, api.ErrMatch} {
			r := begun(t, true)
			for _, a := range l {
				says(r, a)
			}
			says(r, api.Reply{Err: e, Number: 9})
			fails := !(i == 0 && e == api.ErrToken || i == 1 && e == api.ErrExists || i == 4 || e == api.ErrToken && (i == 2 || i == 5))
			_, has, _ := r.State()
			if fails {
				stands(t, r, api.JobFailed, has, e)
			} else {
				stands(t, r, api.JobGoes, has, api.OK)
			}
		}
	}
}

func TestTries(t *testing.T) {
	// feeds that bring nothing
	for _, e := range []api.Errno{api.OK, api.ErrNoSpace, api.ErrRecordSum} {
		r := begun(t, false)
		says(r, api.Reply{})
		for i := range 5 {
			says(r, open(10))
			says(r, api.Reply{Data: []byte("x")})
			if i == 1 { // one that does
				says(r, api.Reply{Err: e, Number: 11})
			} else {
				says(r, api.Reply{Err: e, Number: 10})
			}
			if i < 4 {
				asks(t, r, 1, askToken)
			}
		}
		want := e
		if e == api.OK {
			want = api.ErrReplica
		}
		stands(t, r, api.JobFailed, 10, want)
	}
	// nothing is sent
	r := begun(t, false)
	says(r, api.Reply{})
	for i := range 3 {
		says(r, open(10))
		asks(t, r, 0, askSend(10))
		says(r, api.Reply{})
		if i < 2 {
			asks(t, r, 1, askToken)
		}
	}
	stands(t, r, api.JobFailed, 10, api.ErrReplica)
	// a try of each kind
	r = begun(t, false)
	says(r, api.Reply{})
	says(r, open(10))
	says(r, api.Reply{})
	says(r, open(10))
	says(r, api.Reply{Data: []byte("x")})
	says(r, api.Reply{Number: 3})
	stands(t, r, api.JobGoes, 3, api.OK)
	says(r, open(10))
	says(r, api.Reply{})
	stands(t, r, api.JobFailed, 10, api.ErrReplica)
}

// box is an appliance over disks.
type box struct {
	p *disk.Power
	d []*disk.Disk
	a *appliance.Appliance
}

func newBox(t *testing.T, seed int) *box {
	t.Helper()
	b := &box{p: disk.NewPower()}
	for range 2 {
		d, _ := disk.New(b.p, 2500)
		b.d = append(b.d, d)
	}
	k, e := vdev.Create(uint64(seed), []api.Top{{Kind: api.Mirror, Leaves: 2, Sectors: 2500}}, b.d)
	is(t, e, api.OK)
	s, e := store.New(k)
	is(t, e, api.OK)
	b.a, e = appliance.New(s, "tank", seed)
	is(t, e, api.OK)
	return b
}

func (b *box) crash(t *testing.T, r *rand.Rand) {
	t.Helper()
	stay := make([]bool, b.p.Waiting())
	for i := range stay {
		stay[i] = r.Intn(2) == 0
	}
	b.p.Up(stay)
	k, e := vdev.Import(b.d)
	is(t, e, api.OK)
	s, e := store.Open(k)
	is(t, e, api.OK)
	b.a, e = appliance.Open(s)
	is(t, e, api.OK)
}

// TestBadNet carries snapshots over a net that loses, doubles and delays, while the target crashes.
func TestBadNet(t *testing.T) {
	for seed := range int64(25) {
		r := rand.New(rand.NewSource(seed))
		from, to := newBox(t, 1), newBox(t, 2)
		id := 0
		ask := func(q api.Request) api.Reply {
			id++
			q.Session, q.ID = 1, id
			return from.a.Ask(q)
		}
		ask(api.Request{Verb: api.VerbCreate, Name: "tank/d"})
		ask(api.Request{Verb: api.VerbMakeFile, Name: "tank/d", Path: "/f"})
		base := ""
		first := 1
		for _, snap := range []string{"s", "t"} {
			for i := range 4 {
				b := make([]byte, 1500)
				r.Read(b)
				ask(api.Request{Verb: api.VerbWrite, Name: "tank/d", Path: "/f", At: i * 1000, Data: b})
			}
			ask(api.Request{Verb: api.VerbSnapshot, Name: "tank/d", Item: snap})
			before := to.a.Machine().Grove
			for tries := 0; !carry(t, r, from, to, snap, base, &first, tries); tries++ {
				if g := to.a.Machine().Grove; tries > 5 || !reflect.DeepEqual(g, before) {
					t.Fatal(seed, snap, "it failed, and has changed something, or again and again")
				}
			}
			g := to.a.Machine().Grove
			if len(g.Datasets) != 2 || len(g.Datasets[1].Snaps) != len(datasets(before))+1 {
				t.Fatal(seed, g.Datasets)
			}
			base = "@" + snap
		}
		want := from.a.Machine().Grove.Datasets[1]
		got := to.a.Machine().Grove.Datasets[1]
		for i := range want.Snaps {
			x, y := want.Snaps[i], got.Snaps[i]
			if x.Name != y.Name || x.Guid != y.Guid || len(x.Cells) != len(y.Cells) {
				t.Fatal(seed, i)
			}
			for k := range x.Cells {
				if !bytes.Equal(x.Cells[k].Data, y.Cells[k].Data) {
					t.Fatal(seed, i, k)
				}
			}
		}
	}
}

// carry carries a snapshot over; it may fail where the target falls back behind what it has said.
func carry(t *testing.T, r *rand.Rand, from, to *box, snap, base string, first *int, tries int) bool {
	t.Helper()
	x, e := replica.New(api.Job{Name: "tank/d", Snap: snap, Base: base, To: "tank/c", Session: 5, First: *first, Anew: tries == 0 && r.Intn(2) == 0})
	is(t, e, api.OK)
	type letter struct {
		who int
		a   api.Reply
	}
	var late []letter
	for n := 0; ; n++ {
		q, who, ok := x.Next()
		if !ok {
			s, _, _ := x.State()
			return s == api.JobDone
		}
		if n > 20000 {
			t.Fatal("no end")
		}
		bad := n < 200 && tries < 3
		if bad && r.Intn(15) == 0 {
			to.crash(t, r)
		}
		if bad && r.Intn(5) == 0 { // lost on the way there
			continue
		}
		b := []*box{from, to}[who]
		a := b.a.Ask(q)
		if bad && r.Intn(8) == 0 {
			b.a.Ask(q) // twice
		}
		*first = max(*first, q.ID+1)
		if bad && r.Intn(5) == 0 { // lost on the way back, or late
			late = append(late, letter{who, a})
			continue
		}
		x.Hear(who, a)
		if len(late) > 0 && r.Intn(3) == 0 {
			l := late[r.Intn(len(late))]
			x.Hear(l.who, l.a)
		}
	}
}

// datasets are the snapshots that the second dataset of a state has.
func datasets(g api.Grove) []api.Snap {
	if len(g.Datasets) < 2 {
		return nil
	}
	return g.Datasets[1].Snaps
}
