package store_test

import (
	"bytes"
	"math"
	"math/rand"
	"reflect"
	"slices"
	"testing"

	"undercroft/api"
	"undercroft/disk"
	"undercroft/store"
	"undercroft/tree"
	"undercroft/vdev"
)

func is(t *testing.T, got, want api.Errno) {
	t.Helper()
	if got != want {
		t.Errorf("%d, not %d", got, want)
	}
}

// pool is a new pool of one top.
func pool(t *testing.T, kind, leaves, sectors int) (*disk.Power, []*disk.Disk, *vdev.Tank) {
	t.Helper()
	p := disk.NewPower()
	var d []*disk.Disk
	for range leaves {
		x, _ := disk.New(p, sectors)
		d = append(d, x)
	}
	k, e := vdev.Create(1, []api.Top{{Kind: kind, Leaves: leaves, Sectors: sectors}}, d)
	if e != api.OK {
		t.Fatal(e)
	}
	return p, d, k
}

func fresh(t *testing.T, kind, leaves, sectors int) (*disk.Power, []*disk.Disk, *store.Store) {
	t.Helper()
	p, d, k := pool(t, kind, leaves, sectors)
	s, e := store.New(k)
	if e != api.OK {
		t.Fatal(e)
	}
	return p, d, s
}

// again imports and opens.
func again(t *testing.T, d []*disk.Disk) *store.Store {
	t.Helper()
	k, e := vdev.Import(d)
	if e != api.OK {
		t.Fatal("Import", e)
	}
	s, e := store.Open(k)
	if e != api.OK {
		t.Fatal("Open", e)
	}
	return s
}

func reads(t *testing.T, s *store.Store, o, at, many int, want string) {
	t.Helper()
	if b, e := s.Read(o, at, many); e != api.OK || string(b) != want {
		t.Errorf("Read(%d, %d, %d): %d %q", o, at, many, e, b)
	}
}

func since(t *testing.T, s *store.Store, o int, txg uint64, want ...api.Span) {
	t.Helper()
	if l, e := s.Since(o, txg); e != api.OK || !slices.Equal(l, want) {
		t.Errorf("Since(%d, %d): %d %v", o, txg, e, l)
	}
}

func TestExamples(t *testing.T) {
	p, d, s := fresh(t, api.Mirror, 2, 2048)
	if s.Txg() != 1 || s.Room() != 44 || s.Used() != 0 || s.Note() != 0 || len(s.Objects()) != 0 {
		t.Error(s.Txg(), s.Room(), s.Used())
	}
	is(t, s.Write(3, 2000, []byte("ab")), api.OK)
	if n, e := s.Size(3); n != 2002 || e != api.OK || s.Used() != 4 {
		t.Error(n, e, s.Used())
	}
	reads(t, s, 3, 1998, 9, "\x00\x00ab")
	since(t, s, 3, 1, api.Span{At: 1024, Many: 978})
	is(t, s.Commit(5), api.OK)
	since(t, s, 3, 1, api.Span{At: 1024, Many: 978})
	since(t, s, 3, 2)
	is(t, s.Fork(3, 4), api.OK)
	is(t, s.Write(4, 0, []byte("x")), api.OK)
	reads(t, s, 3, 0, 1, "\x00")
	reads(t, s, 4, 0, 1, "x")
	p.Up(nil)
	s = again(t, d)
	if !slices.Equal(s.Objects(), []int{3}) || s.Note() != 5 || s.Txg() != 2 || s.Tank() == nil {
		t.Error(s.Objects(), s.Note(), s.Txg())
	}
	is(t, s.Drop(9), api.ErrObjectNone)
	if _, e := s.Read(0, 0, 1); e != api.ErrArg {
		t.Error(e)
	}
	is(t, s.Write(1, 65536, []byte("x")), api.ErrArg)
}

func TestNew(t *testing.T) {
	_, _, k := pool(t, api.Mirror, 2, 292+39*8+7)
	if s, e := store.New(k); s != nil || e != api.ErrNoSpace {
		t.Error(e)
	}
	_, d, k := pool(t, api.Mirror, 2, 292+40*8)
	if s, e := store.Open(k); s != nil || e != api.ErrVdevUber {
		t.Error(e)
	}
	s, e := store.New(k)
	if e != api.OK || s.Room() != 0 || s.Txg() != 1 {
		t.Error(e)
	}
	is(t, s.Write(1, 0, []byte("x")), api.ErrNoSpace)
	is(t, s.Write(1, 0, nil), api.OK)
	is(t, s.Commit(3), api.OK)
	s, e = store.New(k)
	if e != api.OK || s.Txg() != 3 || s.Note() != 0 || len(s.Objects()) != 0 {
		t.Error(e)
	}
	if s = again(t, d); s.Txg() != 3 || len(s.Objects()) != 0 {
		t.Error(s.Txg())
	}
	p, _, k := pool(t, api.Parity, 4, 500)
	p.Cut(0)
	if s, e := store.New(k); s != nil || e != api.ErrDown {
		t.Error(e)
	}
	_, d, k = pool(t, api.Mirror, 2, 800)
	d[0].Fail()
	d[1].Fail()
	if s, e := store.New(k); s != nil || e != api.ErrIO {
		t.Error(e)
	}
	_, d, k = pool(t, api.Mirror, 2, 800)
	q, _ := k.Write(0, 0, []byte("no table"), api.Fletcher4, 4)
	k.Mark(api.Uber{Pool: 1, Txg: 4, Root: q})
	if s, e := store.Open(k); s != nil || e != api.ErrTreeForm {
		t.Error(e)
	}
	d[0].Corrupt(274, []byte{1})
	d[1].Corrupt(274, []byte{1})
	if s, e := store.Open(k); s != nil || e != api.ErrIO {
		t.Error(e)
	}
}

func TestArgs(t *testing.T) {
	_, _, s := fresh(t, api.Mirror, 2, 2048)
	s.Write(1, 0, []byte("abc"))
	for i, e := range []api.Errno{
		s.Write(0, 0, nil), s.Write(113, 0, nil), s.Write(1, -1, nil), s.Write(1, 65537, nil), s.Write(1, math.MaxInt, []byte("x")), s.Write(1, 0, make([]byte, 65537)),
		s.Truncate(0, 0), s.Truncate(113, 0), s.Truncate(1, -1), s.Truncate(1, 65537), s.Truncate(9, 65537),
		s.Fork(0, 1), s.Fork(1, 0), s.Fork(1, 113), s.Fork(9, 113), s.Drop(0), s.Drop(113),
	} {
		if e != api.ErrArg {
			t.Error(i, e)
		}
	}
	for i, e := range []api.Errno{s.Truncate(9, 0), s.Fork(9, 1), s.Fork(9, 9), s.Drop(9)} {
		if e != api.ErrObjectNone {
			t.Error(i, e)
		}
	}
	for i, c := range []struct {
		o, at, many int
		e           api.Errno
	}{{0, 0, 0, 1}, {113, 0, 0, 1}, {1, -1, 0, 1}, {1, 0, -1, 1}, {9, 0, -1, 1}, {9, 0, 0, 130}, {1, math.MaxInt, math.MaxInt, 0}, {1, 2, math.MaxInt, 0}} {
		b, e := s.Read(c.o, c.at, c.many)
		if e != c.e || e != api.OK && len(b) > 0 {
			t.Error(i, e)
		}
	}
	for _, o := range []int{-1, 0, 113} {
		n, e := s.Size(o)
		l, e2 := s.Since(o, 0)
		if n != 0 || len(l) != 0 || e != api.ErrArg || e2 != api.ErrArg {
			t.Error(o, e, e2)
		}
	}
	if _, e := s.Size(2); e != api.ErrObjectNone {
		t.Error(e)
	}
	if _, e := s.Since(2, 0); e != api.ErrObjectNone {
		t.Error(e)
	}
	if len(s.Blocks(113)) != 0 || len(s.Blocks(-1)) != 0 || len(s.Blocks(1)) != 0 {
		t.Error("Blocks")
	}
	is(t, s.LogWrite(-1, nil), api.ErrArg)
	if _, e := s.LogRead(0, api.LogSize+1); e != api.ErrArg {
		t.Error(e)
	}
}

func TestRoom(t *testing.T) {
	_, _, s := fresh(t, api.Mirror, 2, 2048) // 44
	is(t, s.Write(1, 0, make([]byte, 40*1024)), api.OK)
	if s.Used() != 44 {
		t.Error(s.Used())
	}
	is(t, s.Write(1, 40*1024, []byte("x")), api.ErrNoSpace)
	is(t, s.Truncate(1, 40*1024+1), api.ErrNoSpace)
	is(t, s.Fork(1, 2), api.ErrNoSpace)
	is(t, s.Write(2, 0, []byte("x")), api.ErrNoSpace)
	is(t, s.Write(1, 39*1024, bytes.Repeat([]byte{1}, 1024)), api.OK)
	if !slices.Equal(s.Objects(), []int{1}) {
		t.Error(s.Objects())
	}
	is(t, s.Truncate(1, 16*1024), api.OK) // 18
	is(t, s.Fork(1, 2), api.OK)
	is(t, s.Write(3, 6*1024, []byte("x")), api.ErrNoSpace)
	is(t, s.Drop(3), api.ErrObjectNone)
	for range 40 { // all is written anew, again and again
		for o := 1; o <= 2; o++ {
			is(t, s.Write(o, 0, bytes.Repeat([]byte{byte(s.Txg())}, 16*1024)), api.OK)
		}
		is(t, s.Commit(s.Txg()), api.OK)
	}
}

func TestSince(t *testing.T) {
	_, d, s := fresh(t, api.Parity, 3, 2048)
	one := bytes.Repeat([]byte{1}, 4096)
	s.Write(1, 0, one)
	s.Commit(0) // 2
	s.Write(1, 5000, []byte("x"))
	since(t, s, 1, 2, api.Span{At: 4096, Many: 905})
	since(t, s, 1, 1, api.Span{At: 0, Many: 5001})
	s.Write(1, 1024, make([]byte, 1024)) // touched, and noughts
	since(t, s, 1, 2, api.Span{At: 1024, Many: 1024}, api.Span{At: 4096, Many: 905})
	since(t, s, 1, math.MaxUint64, api.Span{At: 1024, Many: 1024}, api.Span{At: 4096, Many: 905})
	s.Commit(0) // 3
	since(t, s, 1, 2, api.Span{At: 4096, Many: 905})
	since(t, s, 1, 0, api.Span{At: 0, Many: 1024}, api.Span{At: 2048, Many: 2953})
	s.Truncate(1, 9000) // touches nothing
	s.Truncate(1, 3000)
	since(t, s, 1, 3, api.Span{At: 2048, Many: 952})
	s.Truncate(1, 2048)
	since(t, s, 1, 3)
	s.Truncate(1, 2050)
	since(t, s, 1, 3)
	reads(t, s, 1, 2047, 9, "\x00\x00\x00")
	s.Write(1, 0, []byte("y"))
	s.Fork(1, 2)
	since(t, s, 2, 3, api.Span{At: 0, Many: 1024})
	s.Commit(0) // 4
	since(t, s, 2, 3, api.Span{At: 0, Many: 1024})
	s.Write(1, 8192, nil)
	s.Fork(1, 1)
	since(t, s, 1, 4)
	s.Commit(9) // 5
	s = again(t, d)
	since(t, s, 1, 3, api.Span{At: 0, Many: 1024})
	since(t, s, 2, 0, api.Span{At: 0, Many: 1024})
	if n, _ := s.Size(1); n != 8192 || s.Note() != 9 {
		t.Error(n)
	}
}

func TestBlocks(t *testing.T) {
	_, d, s := fresh(t, api.Mirror, 3, 2048)
	b := bytes.Repeat([]byte{7}, 17*1024+3)
	clear(b[2048:3072])
	s.Write(5, 0, b)
	s.Write(6, 3000, nil)
	if len(s.Blocks(5)) != 0 || len(s.Blocks(0)) != 0 {
		t.Error("not committed")
	}
	s.Commit(0)
	l := s.Blocks(5)
	if len(l) != 17+2+1 || len(s.Blocks(0)) != 2 || len(s.Blocks(6)) != 0 {
		t.Error(len(l), len(s.Blocks(0)))
	}
	at := 0
	for i := range 18 {
		if i == 2 {
			continue
		}
		got, e := s.Tank().Read(l[at])
		if want := b[i*1024 : min((i+1)*1024, len(b))]; e != api.OK || !bytes.Equal(got, want) {
			t.Error(i, e)
		}
		at++
	}
	before := s.Blocks(5)
	s.Drop(5)
	if !slices.Equal(s.Blocks(5), before) {
		t.Error("told what was not committed")
	}
	before[0] = api.Ptr{}
	if s.Blocks(5)[0] == (api.Ptr{}) {
		t.Error("shared")
	}
	s.Fork(6, 7)
	s.Commit(0)
	if len(s.Blocks(5)) != 0 || !slices.Equal(s.Objects(), []int{6, 7}) {
		t.Error(s.Objects())
	}
	s = again(t, d)
	if !slices.Equal(s.Objects(), []int{6, 7}) {
		t.Error(s.Objects())
	}
	s.Write(1, 0, []byte("q"))
	s.Fork(1, 2)
	s.Commit(0)
	s.Fork(2, 3)
	s.Drop(2) // in one group with the fork of it
	s.Commit(0)
	for range 9 {
		s.Write(9, 0, bytes.Repeat([]byte{byte(s.Txg())}, 3000))
		s.Commit(0)
	}
	s = again(t, d)
	reads(t, s, 3, 0, 9, "q")
	reads(t, s, 1, 0, 9, "q")
}

func TestLastObject(t *testing.T) {
	_, d, s := fresh(t, api.Mirror, 2, 2048)
	is(t, s.Write(112, 0, []byte("last")), api.OK)
	is(t, s.Write(1, 0, bytes.Repeat([]byte{9}, 3000)), api.OK)
	is(t, s.Commit(1), api.OK)
	if l := s.Blocks(112); len(l) < 1 || l[0].Bytes != 4 || l[0].Birth != 2 {
		t.Error(l)
	}
	is(t, s.Truncate(1, 1025), api.OK)
	is(t, s.Truncate(1, 2000), api.OK)
	reads(t, s, 1, 1024, 9, "\x09\x00\x00\x00\x00\x00\x00\x00\x00")
	reads(t, s, 1, 2000, 9, "")
	reads(t, s, 1, 1999, 9, "\x00")
	is(t, s.Drop(112), api.OK)
	is(t, s.Write(111, 0, []byte("x")), api.OK)
	is(t, s.Commit(2), api.OK)
	s = again(t, d)
	if !slices.Equal(s.Objects(), []int{1, 111}) {
		t.Error(s.Objects())
	}
	reads(t, s, 1, 1024, 2, "\x09\x00")
	for i := range 6 { // the table is another one each time, and the room goes round
		o := 112 - i*16
		is(t, s.Write(o, 0, bytes.Repeat([]byte{byte(o)}, 2000)), api.OK)
		is(t, s.Commit(3), api.OK)
		is(t, s.Drop(o), api.OK)
		is(t, s.Commit(4), api.OK)
		s = again(t, d)
		reads(t, s, 1, 0, 1, "\x09")
	}
}

// TestHoles has an object whose first blocks are noughts, and the greatest one.
func TestHoles(t *testing.T) {
	_, d, s := fresh(t, api.Mirror, 2, 6000)
	is(t, s.Write(1, 40*1024+5, []byte("far")), api.OK)
	is(t, s.Write(2, 65536, nil), api.OK)
	is(t, s.Commit(1), api.OK)
	for range 2 {
		s = again(t, d)
		reads(t, s, 1, 40*1024+3, 99, "\x00\x00far")
		reads(t, s, 1, 17*1024, 2, "\x00\x00")
		reads(t, s, 2, 65534, 99, "\x00\x00")
		since(t, s, 1, 0, api.Span{At: 40 * 1024, Many: 8})
		is(t, s.Write(1, 20*1024, []byte("mid")), api.OK)
		is(t, s.Write(1, 20*1024, make([]byte, 3)), api.OK)
		is(t, s.Commit(2), api.OK)
	}
	is(t, s.Write(1, 20*1024, []byte("mid")), api.OK)
	is(t, s.Fork(1, 3), api.OK)
	is(t, s.Truncate(1, 20*1024+1), api.OK)
	is(t, s.Commit(3), api.OK)
	s = again(t, d)
	reads(t, s, 1, 20*1024, 99, "m")
	reads(t, s, 3, 20*1024, 4, "mid\x00")
	reads(t, s, 3, 40*1024+5, 99, "far")
}

// TestForms opens what is no table, and no tree.
func TestForms(t *testing.T) {
	_, _, k := pool(t, api.Mirror, 2, 2048)
	txg := uint64(0)
	open := func(l ...api.Ptr) {
		t.Helper()
		txg++
		var b []byte
		blocks, _ := tree.Pack(l)
		for _, x := range blocks {
			b = append(b, x...)
		}
		root, e := k.Write(0, 800, b, api.Fletcher4, txg)
		is(t, e, api.OK)
		is(t, k.Mark(api.Uber{Pool: 1, Txg: txg, Root: root}), api.OK)
		if s, e := store.Open(k); s != nil || e != api.ErrTreeForm {
			t.Error(e)
		}
	}
	short, _ := k.Write(0, 8, []byte("short"), api.Fletcher4, 1)
	ones, _ := k.Write(0, 16, bytes.Repeat([]byte{1}, 1024), api.Fletcher4, 1)
	open(short)
	open(ones)
	open(slices.Repeat([]api.Ptr{ones}, 9)...)
	slot := func(size int, root api.Ptr) api.Ptr {
		b, e := tree.Table([]api.Slot{{Used: true, Size: size, Root: root}})
		is(t, e, api.OK)
		p, _ := k.Write(0, 24, append(b, make([]byte, 1024-len(b))...), api.Fletcher4, 1)
		return p
	}
	leaf, _ := tree.Pack([]api.Ptr{ones, ones})
	mid, _ := k.Write(0, 32, leaf[0], api.Fletcher4, 1)
	up, _ := tree.Pack([]api.Ptr{mid})
	root, _ := k.Write(0, 40, up[0], api.Fletcher4, 1)
	open(slot(1024, root)) // two blocks, of which it has but one
	open(slot(1500, root)) // the second one is too long
	open(slot(1024, ones))
}

// TestSettled opens where one disk alone has the last group's uberblock, or the last of the log; then that one is lost.
func TestSettled(t *testing.T) {
	for lost := range 2 {
		p, d, s := fresh(t, api.Mirror, 2, 2048)
		s.Write(1, 0, []byte("a"))
		is(t, s.Commit(1), api.OK)
		s.Write(1, 0, []byte("b"))
		before := p.Writes()
		is(t, s.Commit(2), api.OK)
		writes := p.Writes() - before
		p, d, s = fresh(t, api.Mirror, 2, 2048)
		s.Write(1, 0, []byte("a"))
		is(t, s.Commit(1), api.OK)
		s.Write(1, 0, []byte("b"))
		p.Cut(writes)
		is(t, s.Commit(2), api.OK) // all of it is written and flushed
		s.Write(1, 0, []byte("c"))
		p.Cut(writes - 1)
		is(t, s.Commit(3), api.ErrDown) // the last mark of the second disk is not
		stay := make([]bool, p.Waiting())
		if len(stay) != 7 {
			t.Fatal(len(stay))
		}
		for i := range stay {
			stay[i] = i == 4*lost // a single mark of one disk
		}
		p.Up(stay)
		s = again(t, d)
		if s.Note() != 3 {
			t.Fatal(s.Note())
		}
		is(t, s.LogWrite(0, []byte("log")), api.OK)
		p.Up([]bool{lost == 0, lost == 1})
		s = again(t, d)
		p.Up(nil)
		d[lost].Fail()
		s = again(t, d)
		if b, e := s.LogRead(0, 3); s.Note() != 3 || string(b) != "log" || e != api.OK {
			t.Error(lost, s.Note(), string(b), e)
		}
		reads(t, s, 1, 0, 1, "c")
	}
	p, d, s := fresh(t, api.Mirror, 2, 2048)
	is(t, s.Commit(1), api.OK)
	k, e := vdev.Import(d)
	is(t, e, api.OK)
	for cut := range 256*2 + 8 {
		p.Cut(cut)
		if s, e := store.Open(k); s != nil || e != api.ErrDown {
			t.Fatal(cut, e)
		}
		p.Up(nil)
	}
	p.Cut(256*2 + 8)
	if _, e := store.Open(k); e != api.OK {
		t.Error(e)
	}
}

func TestTrouble(t *testing.T) {
	p, d, s := fresh(t, api.Mirror, 2, 2048)
	s.Write(1, 0, bytes.Repeat([]byte{1}, 3000))
	s.Commit(4)
	lay := s.Blocks(1)
	for _, x := range d {
		x.Corrupt(274+lay[0].At, []byte{1})
	}
	if b, e := s.Read(1, 0, 9); e != api.ErrIO || len(b) != 0 {
		t.Error(e)
	}
	is(t, s.Write(1, 5, []byte("x")), api.ErrIO)
	is(t, s.Truncate(1, 7), api.ErrIO)
	if n, e := s.Size(1); n != 3000 || e != api.OK {
		t.Error(n, e)
	}
	since(t, s, 1, 2)
	if k, e := vdev.Import(d); e != api.OK {
		t.Error(e)
	} else if x, e := store.Open(k); x != nil || e != api.ErrIO {
		t.Error(e)
	}
	is(t, s.Write(1, 0, bytes.Repeat([]byte{2}, 1024)), api.OK)
	is(t, s.Commit(5), api.OK)
	is(t, s.LogWrite(0, []byte("log")), api.OK)
	is(t, s.LogFlush(), api.OK)
	s.Write(2, 0, []byte("y"))
	p.Cut(0)
	is(t, s.LogWrite(0, []byte("x")), api.ErrDown)
	all := func(s *store.Store, want api.Errno) {
		t.Helper()
		_, e1 := s.Read(0, -1, 0)
		_, e2 := s.Size(0)
		_, e3 := s.Since(0, 0)
		_, e4 := s.LogRead(-1, 0)
		for i, e := range []api.Errno{e1, e2, e3, e4, s.Write(0, 0, nil), s.Truncate(0, 0), s.Fork(0, 0), s.Drop(0), s.Commit(1), s.LogWrite(-1, nil), s.LogFlush()} {
			if e != want {
				t.Error(i, e)
			}
		}
		if !slices.Equal(s.Objects(), []int{1, 2}) || s.Txg() != 3 || s.Note() != 5 || s.Room() != 44 || s.Used() != 8 || len(s.Blocks(1)) != 5 || s.Tank() == nil {
			t.Error(s.Objects(), s.Txg(), s.Used())
		}
	}
	all(s, api.ErrDown)
	p.Up(nil)
	all(s, api.ErrDown)
	s = again(t, d)
	if b, e := s.LogRead(0, 4); string(b) != "log\x00" || e != api.OK {
		t.Error(e)
	}
	s.Write(2, 0, []byte("y"))
	d[0].Fail()
	d[1].Fail()
	is(t, s.LogWrite(0, []byte("x")), api.ErrIO)
	is(t, s.LogFlush(), api.ErrIO)
	is(t, s.Write(2, 0, []byte("z")), api.OK)
	is(t, s.Commit(6), api.ErrIO)
	all(s, api.ErrIO)
}

// model is what a store should hold.
type model struct {
	objects map[int][]byte
	note    uint64
}

func (m model) clone() model {
	c := model{map[int][]byte{}, m.note}
	for k, v := range m.objects {
		c.objects[k] = bytes.Clone(v)
	}
	return c
}

// look is the model of what a store holds.
func look(t *testing.T, s *store.Store) model {
	t.Helper()
	m := model{map[int][]byte{}, s.Note()}
	for _, o := range s.Objects() {
		b, e := s.Read(o, 0, 1<<20)
		if e != api.OK {
			t.Fatal("Read", e)
		}
		m.objects[o] = append([]byte{}, b...)
	}
	return m
}

// step does something to a store and a model.
func step(r *rand.Rand, s *store.Store, m model) api.Errno {
	o := 1 + r.Intn(4)
	b := m.objects[o]
	switch r.Intn(7) {
	case 0, 1, 2:
		at, x := r.Intn(4000), make([]byte, r.Intn(2500))
		if r.Intn(4) > 0 {
			r.Read(x)
		}
		e := s.Write(o, at, x)
		if e == api.OK {
			if len(b) < at+len(x) {
				b = append(b, make([]byte, at+len(x)-len(b))...)
			}
			copy(b[at:], x)
			m.objects[o] = append([]byte{}, b...)
		}
		return e
	case 3:
		n := r.Intn(6000)
		e := s.Truncate(o, n)
		if e == api.OK {
			m.objects[o] = append(append([]byte{}, b...), make([]byte, 6000)...)[:n]
		}
		return e
	case 4:
		to := 1 + r.Intn(4)
		e := s.Fork(o, to)
		if e == api.OK {
			m.objects[to] = bytes.Clone(b)
			if b == nil || len(b) == 0 {
				m.objects[to] = []byte{}
			}
		}
		return e
	case 5:
		e := s.Drop(o)
		if e == api.OK {
			delete(m.objects, o)
		}
		return e
	}
	return s.LogWrite(r.Intn(300), []byte("log"))
}

// scenario does the same each time: the models behind each commit, and (with a cut) where the power went out.
func scenario(t *testing.T, seed int64, s *store.Store) (last, next model, out bool) {
	r := rand.New(rand.NewSource(seed))
	m := look(t, s)
	last = m.clone()
	for i := range 4 {
		for range 6 {
			if e := step(r, s, m); e == api.ErrDown {
				return last, last, true
			}
		}
		next = m.clone()
		next.note = uint64(i + 1)
		if e := s.Commit(uint64(i + 1)); e == api.ErrDown {
			return last, next, true
		} else if e != api.OK {
			t.Fatal(e)
		}
		m.note, last = next.note, next.clone()
		if !reflect.DeepEqual(look(t, s), last) {
			t.Fatal("not what was done")
		}
	}
	return last, last, false
}

// TestGroups lets the power go out at each write, with any of the unflushed writes staying.
func TestGroups(t *testing.T) {
	for seed := int64(1); seed <= 3; seed++ {
		kind := []int{api.Single, api.Mirror, api.Parity}[seed%3]
		leaves := []int{1, 2, 3}[seed%3]
		r := rand.New(rand.NewSource(seed))
		for cut, out := 0, true; out; cut += 1 + r.Intn(9) {
			p, d, s := fresh(t, kind, leaves, 1500)
			p.Cut(cut)
			var last, next model
			last, next, out = scenario(t, seed, s)
			for try := range 2 {
				stay := make([]bool, p.Waiting())
				for i := range stay {
					stay[i] = r.Intn(2) == 0
				}
				p.Up(stay)
				if try == 0 { // the power goes out once more, while the store is opened
					p.Cut(r.Intn(600))
					if k, e := vdev.Import(d); e == api.OK {
						store.Open(k)
					}
				}
			}
			s = again(t, d)
			got := look(t, s)
			if !reflect.DeepEqual(got, last) && !reflect.DeepEqual(got, next) {
				t.Fatal("seed", seed, "cut", cut, got.note, last.note, next.note)
			}
			if _, _, bad := scenario(t, seed+100, s); bad {
				t.Fatal("down")
			}
			p.Up(nil)
			s = again(t, d)
			if s.Note() != 4 {
				t.Fatal(s.Note())
			}
		}
	}
}

// TestOneDisk lets one disk at a time fail, be turned, or be missing.
func TestOneDisk(t *testing.T) {
	for seed := int64(1); seed <= 12; seed++ {
		kind, leaves := api.Mirror, 2
		if seed%2 == 0 {
			kind, leaves = api.Parity, 4
		}
		p, d, s := fresh(t, kind, leaves, 1500)
		r := rand.New(rand.NewSource(seed))
		bad := d[r.Intn(leaves)]
		m := model{map[int][]byte{}, 0}
		failed := false
		for i := range 60 {
			if e := step(r, s, m); e == api.ErrIO || e == api.ErrDown {
				t.Fatal(e)
			}
			switch {
			case i == 30 && seed%4 < 2:
				bad.Fail()
				failed = true
			case !failed:
				for at := 274; at < 1482; at += 1 + r.Intn(3) {
					bad.Corrupt(at, []byte{byte(r.Intn(256))})
				}
			}
			if i%7 == 0 {
				m.note++
				is(t, s.Commit(m.note), api.OK)
			}
			if i%20 == 19 {
				m.note++
				is(t, s.Commit(m.note), api.OK)
				p.Up(nil)
				s = again(t, d)
			}
			if !reflect.DeepEqual(look(t, s), m) {
				t.Fatal(seed, i)
			}
		}
		is(t, s.Commit(m.note), api.OK)
		var others []*disk.Disk
		for _, x := range d {
			if x != bad {
				others = append(others, x)
			}
		}
		s = again(t, others)
		if !reflect.DeepEqual(look(t, s), m) {
			t.Fatal(seed, "without it")
		}
	}
}

func TestLogAndTops(t *testing.T) {
	p := disk.NewPower()
	var d []*disk.Disk
	for _, n := range []int{700, 900, 900, 800, 800, 800} {
		x, _ := disk.New(p, n)
		d = append(d, x)
	}
	k, e := vdev.Create(4, []api.Top{{Kind: 1, Leaves: 1, Sectors: 700}, {Kind: 2, Leaves: 2, Sectors: 900}, {Kind: 3, Leaves: 3, Sectors: 800}}, d)
	is(t, e, api.OK)
	s, e := store.New(k)
	is(t, e, api.OK)
	if s.Room() != (51+76+127)/4-10 {
		t.Error(s.Room())
	}
	for i := range 20 {
		is(t, s.Write(1+i%3, 0, bytes.Repeat([]byte{byte(i + 1)}, 14000)), api.OK)
		is(t, s.Commit(uint64(i)), api.OK)
	}
	tops := map[int]int{}
	for o := range 4 {
		for _, q := range s.Blocks(o) {
			tops[q.Top]++
		}
	}
	if len(tops) < 2 {
		t.Error(tops)
	}
	is(t, s.LogWrite(100, []byte("hello")), api.OK)
	is(t, s.LogFlush(), api.OK)
	s.Write(1, 0, []byte("lost"))
	p.Up(nil)
	s = again(t, d)
	if b, e := s.LogRead(99, 7); string(b) != "\x00hello\x00" || e != api.OK {
		t.Errorf("%q %d", b, e)
	}
	reads(t, s, 1, 0, 1, string([]byte{19}))
}
