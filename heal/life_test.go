package heal_test

import (
	"bytes"
	"math/rand"
	"reflect"
	"testing"

	"undercroft/api"
	"undercroft/disk"
	"undercroft/heal"
	"undercroft/store"
	"undercroft/vdev"
)

// life is a pool through whose days at most one disk at a time is not as it should be.
type life struct {
	t    *testing.T
	r    *rand.Rand
	p    *disk.Power
	d    []*disk.Disk
	s    *store.Store
	now  map[int][]byte
	last map[int][]byte // as it was committed
	bad  int            // the disk that has failed, is new, or was turned; below 0: none
	how  string
	c    api.Cursor
}

func copyOf(m map[int][]byte) map[int][]byte {
	c := map[int][]byte{}
	for k, v := range m {
		c[k] = v
	}
	return c
}

func (l *life) look() map[int][]byte {
	m := map[int][]byte{}
	for _, o := range l.s.Objects() {
		b, e := l.s.Read(o, 0, 1<<20)
		if e != api.OK {
			l.t.Fatal("Read", e)
		}
		m[o] = append([]byte{}, b...)
	}
	return m
}

// work changes an object.
func (l *life) work() api.Errno {
	o := 1 + l.r.Intn(5)
	switch l.r.Intn(4) {
	case 0:
		n := l.r.Intn(5000)
		e := l.s.Truncate(o, n)
		if e == api.OK {
			l.now[o] = append(append([]byte{}, l.now[o]...), make([]byte, 5000)...)[:n]
		}
		return e
	case 1:
		to := 1 + l.r.Intn(5)
		e := l.s.Fork(o, to)
		if e == api.OK {
			l.now[to] = l.now[o]
		}
		return e
	}
	at, b := l.r.Intn(4000), make([]byte, 1+l.r.Intn(2000))
	l.r.Read(b)
	e := l.s.Write(o, at, b)
	if e == api.OK {
		x := append([]byte{}, l.now[o]...)
		x = append(x, make([]byte, max(0, at+len(b)-len(x)))...)
		copy(x[at:], b)
		l.now[o] = x
	}
	return e
}

// crash lets the power go out, and opens all anew; next is what a commit was about to lay down, if one was.
func (l *life) crash(next map[int][]byte) {
	for try := range 2 {
		stay := make([]bool, l.p.Waiting())
		for i := range stay {
			stay[i] = l.r.Intn(2) == 0
		}
		l.p.Up(stay)
		if try == 0 && l.r.Intn(2) == 0 {
			l.p.Cut(l.r.Intn(700))
		}
		var there []*disk.Disk
		for _, d := range l.d {
			if !d.Failed() {
				there = append(there, d)
			}
		}
		l.r.Shuffle(len(there), func(i, k int) { there[i], there[k] = there[k], there[i] })
		k, e := vdev.Import(there)
		if e == api.OK {
			l.s, e = store.Open(k)
		}
		if e != api.OK && (try == 1 || e != api.ErrDown) {
			l.t.Fatal("crash", e, l.how)
		}
	}
	l.c = api.Cursor{}
	got := l.look()
	if next != nil && reflect.DeepEqual(got, next) {
		l.last = next
	} else if !reflect.DeepEqual(got, l.last) {
		l.t.Fatal("not as it was committed, with one disk", l.how)
	}
	l.now = copyOf(l.last)
}

// trouble makes one disk what it should not be, or goes on to put it right.
func (l *life) trouble() api.Errno {
	switch l.how {
	case "":
		l.bad = l.r.Intn(len(l.d))
		if l.r.Intn(2) == 0 {
			l.how = "failed"
			l.d[l.bad].Fail()
			return api.OK
		}
		l.how = "turned"
		for at := api.Front; at < l.d[0].Sectors()-api.Back; at += 1 + l.r.Intn(4) {
			l.d[l.bad].Corrupt(at, []byte{1 + byte(l.r.Intn(255))})
		}
	case "failed":
		l.c = api.Cursor{}
		l.d[l.bad].Replace()
		e := l.s.Tank().Replace(0, l.bad, l.d[l.bad], l.s.Txg())
		if e == api.OK {
			l.how = "new"
		}
		return e
	case "new":
		if _, ok := l.s.Tank().Lacks(0, l.bad); !ok {
			l.how = "" // the power went out behind its last block: it has all
			return api.OK
		}
		c, h, e := heal.Resilver(l.s, 0, l.bad, l.c, 1+l.r.Intn(20))
		if h.Lost > 0 {
			l.t.Fatal("lost")
		}
		if e == api.OK && c.Done {
			l.how = ""
		}
		l.c = c
		return e
	case "turned":
		_, h, e := heal.Scrub(l.s, api.Cursor{}, 9999)
		if h.Lost > 0 {
			l.t.Fatal("lost")
		}
		if e == api.OK {
			l.how = ""
		}
		return e
	}
	return api.OK
}

// day does something.
func (l *life) day() {
	if l.r.Intn(4) == 0 {
		l.p.Cut(l.r.Intn(300))
	}
	e := api.OK
	var next map[int][]byte
	switch l.r.Intn(12) {
	case 0:
		l.crash(nil)
	case 1, 2, 3:
		e = l.trouble()
	case 4, 5, 6:
		next = copyOf(l.now)
		if e = l.s.Commit(1); e == api.OK {
			l.last = next
		}
	default:
		if e = l.work(); e != api.ErrIO && e != api.ErrDown {
			e = api.OK // what is refused is so with whole disks, too
		}
	}
	if e == api.ErrDown {
		l.crash(next)
	} else if e != api.OK {
		l.t.Fatal(e, l.how)
	}
	l.p.Cut(-1)
}

// TestLife plays many days (D1, D2, D4).
func TestLife(t *testing.T) {
	for seed := range int64(16) {
		r := rand.New(rand.NewSource(seed))
		top := []api.Top{{Kind: api.Mirror, Leaves: 2, Sectors: 1500}, {Kind: api.Mirror, Leaves: 3, Sectors: 1500}, {Kind: api.Parity, Leaves: 3, Sectors: 900}, {Kind: api.Parity, Leaves: 5, Sectors: 700}}[seed%4]
		x := fresh(t, top)
		l := &life{t: t, r: r, p: x.p, d: x.d, s: x.s, now: map[int][]byte{}, last: map[int][]byte{}, bad: -1}
		for range 200 {
			l.day()
			if !same(l.look(), l.now) {
				t.Fatal(seed, "not what was done")
			}
		}
	}
}

func same(x, y map[int][]byte) bool {
	if len(x) != len(y) {
		return false
	}
	for k := range x {
		if !bytes.Equal(x[k], y[k]) {
			return false
		}
	}
	return true
}
