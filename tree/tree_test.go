package tree_test

import (
	"bytes"
	"math"
	"slices"
	"testing"

	"undercroft/api"
	"undercroft/tree"
)

var good = api.Ptr{Top: 1, At: 258, Bytes: 5, Birth: 7, Kind: api.Fletcher4, Sum: api.Sum{A: 9}}

func TestSplit(t *testing.T) {
	b := make([]byte, 1025)
	b[1024] = 5
	l := tree.Split(b)
	if len(l) != 2 || len(l[0]) != 0 || !bytes.Equal(l[1], []byte{5}) {
		t.Error(l)
	}
	b[3] = 1
	l = tree.Split(b)
	if len(l) != 2 || !bytes.Equal(l[0], b[:1024]) {
		t.Error(l)
	}
	l[0][3] = 9
	_ = append(l[0], 7)
	if b[3] != 1 || b[1024] != 5 || l[1][0] != 5 {
		t.Error("shared")
	}
	if len(tree.Split(nil)) != 0 || len(tree.Split(make([]byte, 2048))) != 2 {
		t.Error("Split of noughts")
	}
	if !tree.Blank(nil) || !tree.Blank([]byte{0, 0}) || tree.Blank([]byte{0, 1}) || tree.Blank([]byte{1, 0}) {
		t.Error("Blank")
	}
}

func TestPack(t *testing.T) {
	l := append(make([]api.Ptr, 17), good)
	b, e := tree.Pack(l)
	if e != api.OK || len(b) != 2 || len(b[0]) != 0 || len(b[1]) != 128 || !tree.Blank(b[1][:64]) {
		t.Error(e, len(b))
	}
	back, e := tree.Unpack(b[1])
	if e != api.OK || !slices.Equal(back, l[16:]) {
		t.Error(e, back)
	}
	for i, c := range []struct {
		l []api.Ptr
		n int
		e api.Errno
	}{{nil, 0, 0}, {slices.Repeat([]api.Ptr{good}, 4096), 256, 0}, {slices.Repeat([]api.Ptr{{Top: 1}}, 4097), 0, api.ErrLong}, {[]api.Ptr{good, {Top: 1}}, 0, api.ErrPtrState}} {
		if b, e := tree.Pack(c.l); e != c.e || len(b) != c.n {
			t.Error(i, e, len(b))
		}
	}
	full, _ := tree.Pack(slices.Repeat([]api.Ptr{good}, 16))
	if l, e := tree.Unpack(full[0]); e != api.OK || len(l) != 16 {
		t.Error(e)
	}
	wrong := bytes.Clone(full[0])
	wrong[63] = 1
	for i, b := range [][]byte{nil, full[0][:63], full[0][:65], append(bytes.Clone(full[0]), full[0][:64]...), wrong} {
		if l, e := tree.Unpack(b); len(l) != 0 || e != api.ErrTreeForm {
			t.Error(i, e)
		}
	}
	if l, e := tree.Unpack(make([]byte, 64)); e != api.OK || len(l) != 1 {
		t.Error(e)
	}
}

func TestTable(t *testing.T) {
	l := []api.Slot{{Used: true, Size: 65536, Root: good}, {}, {Used: true}}
	b, e := tree.Table(l)
	if e != api.OK || len(b) != 216 || !bytes.HasPrefix(b, []byte{1, 0, 0, 0, 0, 0, 1, 0, 1, 1, 5}) {
		t.Errorf("%d % x", e, b)
	}
	if back, e := tree.Slots(b); e != api.OK || !slices.Equal(back, l) {
		t.Error(e, back)
	}
	for i, c := range []struct {
		l []api.Slot
		e api.Errno
	}{{nil, 0}, {make([]api.Slot, 112), 0}, {make([]api.Slot, 113), api.ErrLong}, {[]api.Slot{{Size: 1}}, 120}, {[]api.Slot{{Root: good}}, 120}, {[]api.Slot{{Used: true, Size: -1}}, 120}, {[]api.Slot{{Used: true, Size: 65537}}, 120}, {[]api.Slot{{Used: true, Root: api.Ptr{Top: 1}}}, 120}} {
		b, e := tree.Table(c.l)
		if e != c.e || len(b) > 0 && e != api.OK {
			t.Error(i, e)
		}
		if back, e := tree.Slots(b); c.e == api.OK && (e != api.OK || !slices.Equal(back, c.l)) {
			t.Error(i, e)
		}
	}
	at := func(i int, x byte) []byte { c := bytes.Clone(b); c[i] = x; return c }
	for i, b := range [][]byte{b[:71], b[:215], at(0, 2), at(0, 0), at(1, 1), at(3, 1), at(6, 2), at(8, 9), at(71, 1), at(72+5, 1), at(72+9, 1), make([]byte, 113*72)} {
		if l, e := tree.Slots(b); len(l) != 0 || e != api.ErrTreeForm {
			t.Error(i, e)
		}
	}
}

func TestCost(t *testing.T) {
	for _, c := range [][2]int{{0, 0}, {-5, 0}, {math.MinInt, 0}, {1, 3}, {1024, 3}, {1025, 4}, {16384, 18}, {16385, 20}, {65536, 69}} {
		if n := tree.Cost(c[0]); n != c[1] {
			t.Error(c, n)
		}
	}
	if tree.Cost(math.MaxInt) <= 0 {
		t.Error("overflow")
	}
}

func TestSince(t *testing.T) {
	born := func(n uint64) api.Ptr { p := good; p.Birth = n; return p }
	l := []api.Ptr{born(5), {}, born(7), born(8), born(2)}
	for i, c := range []struct {
		size int
		txg  uint64
		want []api.Span
	}{{2000, 4, []api.Span{{At: 0, Many: 1024}}}, {2000, 5, nil}, {5000, 4, []api.Span{{At: 0, Many: 1024}, {At: 2048, Many: 2048}}}, {2049, 6, []api.Span{{At: 2048, Many: 1}}}, {math.MaxInt, 0, []api.Span{{At: 0, Many: 1024}, {At: 2048, Many: 3072}}}, {0, 0, nil}, {-1, 0, nil}, {math.MinInt, 0, nil}, {5000, math.MaxUint64, nil}} {
		if got := tree.Since(c.size, l, c.txg); !slices.Equal(got, c.want) {
			t.Error(i, got)
		}
	}
	if got := tree.Since(2049, []api.Ptr{born(1), born(1), {}, born(1)}, 0); !slices.Equal(got, []api.Span{{At: 0, Many: 2048}}) {
		t.Error(got)
	}
	if got := tree.Since(10, []api.Ptr{{Birth: 3}}, 2); !slices.Equal(got, []api.Span{{At: 0, Many: 10}}) {
		t.Error(got)
	}
}
