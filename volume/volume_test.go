package volume_test

import (
	"bytes"
	"math"
	"math/rand"
	"reflect"
	"testing"

	"undercroft/api"
	"undercroft/volume"
)

func is(t *testing.T, got, want api.Errno) {
	t.Helper()
	if got != want {
		t.Errorf("%d, not %d", got, want)
	}
}

func fresh(t *testing.T, size int) *volume.Volume {
	t.Helper()
	v, e := volume.New(size)
	is(t, e, api.OK)
	return v
}

func TestExamples(t *testing.T) {
	v := fresh(t, 512)
	if c := v.Cells(); len(c) != 1 || c[0].Object != 1 || c[0].At != -1 || !bytes.Equal(c[0].Data, []byte{0, 2, 0, 0}) || v.Size() != 512 {
		t.Error(c)
	}
	is(t, v.Write(254, []byte("abc")), api.OK)
	if c := v.Cells(); len(c) != 3 || c[1].At != 0 || len(c[1].Data) != 256 || c[2].At != 1 || c[2].Data[0] != 'c' {
		t.Error(c)
	}
	if b, e := v.Read(253, 5); string(b) != "\x00abc\x00" || e != api.OK {
		t.Error(b, e)
	}
	is(t, v.Discard(0, 256), api.OK)
	if c := v.Cells(); len(c) != 2 || c[1].At != 1 {
		t.Error(c)
	}
	if b, e := v.Read(255, 2); string(b) != "\x00c" || e != api.OK {
		t.Error(b, e)
	}
	is(t, v.Write(511, []byte("ab")), api.ErrSize)
	for _, n := range []int{100, 0, 16640, -256, 257, math.MaxInt, math.MinInt} {
		if v, e := volume.New(n); v != nil || e != api.ErrArg {
			t.Error(n, e)
		}
	}
	fresh(t, 256)
	fresh(t, 16384)
}

func TestSizes(t *testing.T) {
	v := fresh(t, 512)
	for _, c := range []struct {
		at, many int
		e        api.Errno
	}{{-1, 1, 186}, {0, -1, 186}, {512, 1, 186}, {512, 0, 0}, {513, 0, 186}, {0, 512, 0}, {1, 512, 186}, {math.MaxInt, math.MaxInt, 186}, {1, math.MaxInt, 186}, {math.MaxInt, 0, 186}} {
		b, e := v.Read(c.at, c.many)
		if e != c.e || e != api.OK && len(b) > 0 {
			t.Error(c, e)
		}
		is(t, v.Discard(c.at, c.many), c.e)
		if c.many >= 0 && c.many < 1000 {
			is(t, v.Write(c.at, make([]byte, c.many)), c.e)
		}
	}
}

func TestOpen(t *testing.T) {
	v := fresh(t, 1024)
	v.Write(256, bytes.Repeat([]byte{1}, 300))
	for i, do := range []func(c []api.Cell) []api.Cell{
		func(c []api.Cell) []api.Cell { return nil }, func(c []api.Cell) []api.Cell { return c[1:] }, func(c []api.Cell) []api.Cell { c[0].Object = 2; return c }, func(c []api.Cell) []api.Cell { c[0].At = 0; return c },
		func(c []api.Cell) []api.Cell { c[0].Data = c[0].Data[:3]; return c }, func(c []api.Cell) []api.Cell { c[0].Data = append(c[0].Data, 0); return c }, func(c []api.Cell) []api.Cell { c[0].Data[0] = 1; return c }, func(c []api.Cell) []api.Cell { c[0].Data[1] = 2; return c }, func(c []api.Cell) []api.Cell { c[0].Data[3] = 1; return c },
		func(c []api.Cell) []api.Cell { c[1].Object = 2; return c }, func(c []api.Cell) []api.Cell { c[1].At = -1; return c }, func(c []api.Cell) []api.Cell { c[2].At = 1; return c }, func(c []api.Cell) []api.Cell { c[2].At = 4; return c }, func(c []api.Cell) []api.Cell { c[2].At = math.MaxInt; return c },
		func(c []api.Cell) []api.Cell { c[1].Data = c[1].Data[:255]; return c }, func(c []api.Cell) []api.Cell { clear(c[1].Data); return c }, func(c []api.Cell) []api.Cell { c[1], c[2] = c[2], c[1]; return c }, func(c []api.Cell) []api.Cell { return append(c, c[2]) },
	} {
		if x, e := volume.Open(do(v.Cells())); x != nil || e != api.ErrVolume {
			t.Error(i, e)
		}
	}
	c := v.Cells()
	c[1].Birth = 9
	x, e := volume.Open(c)
	if e != api.OK || !reflect.DeepEqual(x.Cells(), v.Cells()) {
		t.Error(e)
	}
	c[1].Data[0] = 77
	x.Cells()[1].Data[0] = 77
	if b, _ := x.Read(256, 1); b[0] != 1 {
		t.Error("shared")
	}
}

func TestPlay(t *testing.T) {
	r := rand.New(rand.NewSource(1))
	v, m := fresh(t, 2048), make([]byte, 2048)
	for range 500 {
		at := r.Intn(2048)
		n := r.Intn(2049 - at)
		if r.Intn(2) == 0 {
			n = min(n, 300)
			b := make([]byte, n)
			r.Read(b)
			is(t, v.Write(at, b), api.OK)
			copy(m[at:], b)
		} else {
			is(t, v.Discard(at, n), api.OK)
			clear(m[at : at+n])
		}
		x, e := volume.Open(v.Cells())
		is(t, e, api.OK)
		v = x
		if b, e := v.Read(0, 2048); e != api.OK || !bytes.Equal(b, m) {
			t.Fatal(e)
		}
	}
	v.Discard(0, 2048)
	if len(v.Cells()) != 1 {
		t.Error("noughts have cells")
	}
}
