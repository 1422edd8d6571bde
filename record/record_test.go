package record_test

import (
	"bytes"
	"fmt"
	"reflect"
	"strings"
	"testing"

	"undercroft/api"
	"undercroft/record"
	"undercroft/sum"
)

func is(t *testing.T, got, want api.Errno) {
	t.Helper()
	if got != want {
		t.Errorf("%d, not %d", got, want)
	}
}

func ints(from, many int) []int {
	var l []int
	for i := range many {
		l = append(l, from+i)
	}
	return l
}

func props(many int) []api.Prop {
	var l []api.Prop
	for i := range many {
		l = append(l, api.Prop{Name: fmt.Sprintf("p%02d", i), Value: strings.Repeat("v", 64)})
	}
	return l
}

func good() []api.Record {
	return []api.Record{
		{Kind: 1, Name: "s", Many: 1}, {Kind: 1, Name: strings.Repeat("a", 24), Many: 120},
		{Kind: 2, Type: 1, Guid: 1, Snap: "s"}, {Kind: 2, Name: strings.Repeat("/"+strings.Repeat("a", 24), 7), Type: 2, From: 1 << 41, Guid: 1 << 41, Origin: 1, Snap: "t", Props: props(12)}, {Kind: 2, Type: 1, From: 5, Guid: 1, Snap: "s"},
		{Kind: 3}, {Kind: 3, Keep: ints(1<<20-239, 240)}, {Kind: 3, Keep: []int{1, 7}},
		{Kind: 4, Object: 1, Keep: []int{-1}}, {Kind: 4, Object: 1 << 20, Keep: ints(16, 240)}, {Kind: 4, Object: 1, Keep: ints(-1, 240)},
		{Kind: 5, Object: 1, At: -1, Data: []byte("x")}, {Kind: 5, Object: 1 << 20, At: 255, Data: make([]byte, 256)},
		{Kind: 6, Many: 1}, {Kind: 7, Many: 1 << 20},
	}
}

func TestCheck(t *testing.T) {
	for i, r := range good() {
		is(t, record.Check(r), api.OK)
		for k, do := range []func(x *api.Record){ // what another kind has may not be
			func(x *api.Record) { x.Name = "/z/z" + x.Name }, func(x *api.Record) { x.Type += 7 }, func(x *api.Record) { x.From += 1 << 42 }, func(x *api.Record) { x.Guid += 1 << 42 }, func(x *api.Record) { x.Origin += 2 }, func(x *api.Record) { x.Snap += "/" },
			func(x *api.Record) { x.Props = props(13) }, func(x *api.Record) { x.Object += 1 << 21 }, func(x *api.Record) { x.At += 999 }, func(x *api.Record) { x.Many += 1 << 21 }, func(x *api.Record) { x.Keep = ints(1, 241) }, func(x *api.Record) { x.Data = make([]byte, 257) },
			func(x *api.Record) { x.From = -1 }, func(x *api.Record) { x.At = -2 }, func(x *api.Record) { x.Many = -1 }, func(x *api.Record) { x.Object = -1 }, func(x *api.Record) { x.Kind = 0 }, func(x *api.Record) { x.Kind = 8 },
		} {
			x := r
			do(&x)
			if k == 0 && r.Kind == 2 && r.Name == "" {
				continue
			}
			b, s, e := record.Encode(x, api.Sum{})
			if record.Check(x) != api.ErrRecord || len(b) != 0 || s != (api.Sum{}) || e != api.ErrRecord {
				t.Error(i, k, e)
			}
		}
	}
	for i, r := range []api.Record{
		{}, {Kind: 1, Name: "s"}, {Kind: 1, Name: "s", Many: 121}, {Kind: 1, Many: 1}, {Kind: 1, Name: "a/b", Many: 1},
		{Kind: 2, Name: "a", Type: 1, Guid: 1, Snap: "s"}, {Kind: 2, Name: "/", Type: 1, Guid: 1, Snap: "s"}, {Kind: 2, Name: "/a/", Type: 1, Guid: 1, Snap: "s"}, {Kind: 2, Name: strings.Repeat("/a", 8), Type: 1, Guid: 1, Snap: "s"}, {Kind: 2, Type: 3, Guid: 1, Snap: "s"}, {Kind: 2, Guid: 1, Snap: "s"}, {Kind: 2, Type: 1, Snap: "s"}, {Kind: 2, Type: 1, Guid: 1<<41 + 1, Snap: "s"}, {Kind: 2, Type: 1, Guid: 1}, {Kind: 2, Type: 1, Guid: 1, Snap: "s", Origin: 1},
		{Kind: 2, Type: 1, Guid: 1, Snap: "s", Props: []api.Prop{{Name: "p"}}}, {Kind: 2, Type: 1, Guid: 1, Snap: "s", Props: []api.Prop{{Name: "", Value: "x"}}}, {Kind: 2, Type: 1, Guid: 1, Snap: "s", Props: []api.Prop{{Name: "p", Value: "x"}, {Name: "p", Value: "x"}}}, {Kind: 2, Type: 1, Guid: 1, Snap: "s", Props: []api.Prop{{Name: "p", Value: "\n"}}},
		{Kind: 3, Keep: []int{0}}, {Kind: 3, Keep: []int{2, 2}}, {Kind: 3, Keep: []int{1<<20 + 1}}, {Kind: 3, Keep: ints(1, 241)}, {Kind: 4, Object: 1}, {Kind: 4, Keep: []int{1}}, {Kind: 4, Object: 1, Keep: []int{-2}}, {Kind: 4, Object: 1, Keep: []int{256}}, {Kind: 4, Object: 1, Keep: []int{1, 0}},
		{Kind: 5, Object: 1}, {Kind: 5, Data: []byte("x")}, {Kind: 5, Object: 1, At: 256, Data: []byte("x")}, {Kind: 5, Object: 1, Name: "x", Data: []byte("x")}, {Kind: 6}, {Kind: 6, Many: 1<<20 + 1}, {Kind: 7},
	} {
		if e := record.Check(r); e != api.ErrRecord {
			t.Error(i, e)
		}
	}
}

func TestForms(t *testing.T) {
	b, s, e := record.Encode(api.Record{Kind: 6, Many: 5}, api.Sum{})
	if e != api.OK || len(b) != 41 || !bytes.HasPrefix(b, []byte{6, 4, 0, 0, 0, 5, 0, 0, 0}) {
		t.Errorf("% x %d", b, e)
	}
	want, _ := sum.Of(api.Sha256, append(make([]byte, 32), b[:9]...))
	if s != want || b[9] != byte(s.A) || b[16] != byte(s.A>>56) || b[33] != byte(s.D) {
		t.Error("seal")
	}
	for _, c := range []struct {
		r    api.Record
		body string
	}{
		{api.Record{Kind: 5, Object: 2, At: -1, Data: []byte("a")}, "\x02\x00\x00\x00\x00\x00\x01\x00a"},
		{api.Record{Kind: 1, Name: "ab", Many: 3}, "\x02\x00ab\x03\x00"},
		{api.Record{Kind: 2, Name: "/d", Type: 2, From: 258, Guid: 3, Origin: 1, Snap: "s", Props: []api.Prop{{Name: "p", Value: "v"}}}, "\x02\x00/d\x02\x02\x01\x00\x00\x00\x00\x03\x00\x00\x00\x00\x00\x01\x01\x00s\x01\x01\x00p\x01\x00v"},
		{api.Record{Kind: 3, Keep: []int{1, 258}}, "\x02\x00\x01\x00\x00\x00\x02\x01\x00\x00"},
		{api.Record{Kind: 4, Object: 9, Keep: []int{-1, 255}}, "\x09\x00\x00\x00\x02\x00\x00\x00\x00\x01"},
	} {
		b, _, e := record.Encode(c.r, api.Sum{A: 1})
		if e != api.OK || string(b[5:len(b)-32]) != c.body || int(b[1]) != len(c.body) {
			t.Errorf("% x %d", b, e)
		}
	}
}

func TestDecode(t *testing.T) {
	ahead := api.Sum{A: 1, B: 2, C: 3, D: 1 << 63}
	for i, r := range good() {
		b, s, _ := record.Encode(r, ahead)
		x, n, s2, e := record.Decode(append(bytes.Clone(b), 9, 9), ahead)
		if e != api.OK || n != len(b) || s2 != s || !alike(x, r) {
			t.Error(i, e)
		}
		if again, _, _ := record.Encode(x, ahead); !bytes.Equal(again, b) {
			t.Error(i, "other bytes")
		}
		for _, cut := range []int{0, 4, 5, len(b) - 1} {
			if x, n, s, e := record.Decode(b[:cut], ahead); e != api.ErrCodeShort || n != 0 || s != (api.Sum{}) || !alike(x, api.Record{}) {
				t.Error(i, cut, e)
			}
		}
		for k := range b {
			y := bytes.Clone(b)
			y[k] ^= 0x10
			if _, n, _, e := record.Decode(y, ahead); e == api.OK || n != 0 {
				t.Error(i, k, "turned, and taken")
			}
		}
		if _, _, _, e := record.Decode(b, api.Sum{}); e != api.ErrRecordSum {
			t.Error(i, e)
		}
	}
	for _, h := range []string{"\x09\x00\x00\x00\x00\x00\x00\x00", "\x00\x00\x00\x00\x00", "\x06\x01\x08\x00\x00", "\x06\x00\x00\x00\x01"} {
		if _, _, _, e := record.Decode([]byte(h), ahead); e != api.ErrRecord {
			t.Errorf("% x %d", h, e)
		}
	}
	if _, _, _, e := record.Decode([]byte("\x06\x00\x08\x00\x00"), ahead); e != api.ErrCodeShort {
		t.Error(e)
	}
	for i, body := range []string{"\x06\x05\x00\x00", "\x06\x05\x00\x00\x00\x00", "\x06\x00\x00\x00\x00", "\x03\x02\x00\x01\x00\x00\x00", "\x03\xff\xff", "\x03\x01\x00\x00\x00\x00\x00", "\x05\x01\x00\x00\x00\x00\x00\x02\x00x", "\x04\x01\x00\x00\x00\x01\x00\x01\x01", "\x01\x01\x00S\x01\x00", "\x02"} {
		b := append([]byte{body[0], byte(len(body) - 1), 0, 0, 0}, body[1:]...)
		var w []byte
		for _, n := range []uint64{1, 2, 3, 1 << 63} {
			for k := range 8 {
				w = append(w, byte(n>>(8*k)))
			}
		}
		s, _ := sum.Of(api.Sha256, append(w, b...))
		for _, n := range []uint64{s.A, s.B, s.C, s.D} {
			for k := range 8 {
				b = append(b, byte(n>>(8*k)))
			}
		}
		if x, n, s, e := record.Decode(b, ahead); e != api.ErrRecord || n != 0 || s != (api.Sum{}) || !alike(x, api.Record{}) {
			t.Error(i, e)
		}
	}
}

// alike: nil and empty lists are the same.
func alike(x, y api.Record) bool {
	for _, r := range []*api.Record{&x, &y} {
		r.Props = append([]api.Prop{}, r.Props...)
		r.Keep = append([]int{}, r.Keep...)
		r.Data = append([]byte{}, r.Data...)
	}
	return reflect.DeepEqual(x, y)
}

func TestStream(t *testing.T) {
	l := good()
	b, e := record.Stream(l)
	is(t, e, api.OK)
	back, e := record.Records(b)
	if e != api.OK || len(back) != len(l) {
		t.Fatal(e)
	}
	for i := range l {
		if !alike(back[i], l[i]) {
			t.Error(i)
		}
	}
	if x, e := record.Stream(nil); len(x) != 0 || e != api.OK {
		t.Error(e)
	}
	if x, e := record.Records(nil); len(x) != 0 || e != api.OK {
		t.Error(e)
	}
	if x, e := record.Records(b[:len(b)-1]); len(x) != 0 || e != api.ErrCodeShort {
		t.Error(e)
	}
	if x, e := record.Records(b[55:]); len(x) != 0 || e == api.OK {
		t.Error(e)
	}
	one := api.Record{Kind: 5, Object: 1, Data: make([]byte, 256)} // 301 bytes
	var many []api.Record
	for range 1<<20/301 + 1 {
		many = append(many, one)
	}
	if x, e := record.Stream(many); len(x) != 0 || e != api.ErrLong {
		t.Error(e)
	}
	if x, e := record.Stream(append(many, api.Record{})); len(x) != 0 || e != api.ErrRecord {
		t.Error(e)
	}
	if x, e := record.Stream(many[1:]); e != api.OK {
		t.Error(e)
	} else if l, e := record.Records(x); e != api.OK || len(l) != len(many)-1 {
		t.Error(e)
	}
	if x, e := record.Records(make([]byte, 1<<20+1)); len(x) != 0 || e != api.ErrLong {
		t.Error(e)
	}
	if _, e := record.Records(make([]byte, 1<<20)); e != api.ErrRecord {
		t.Error(e)
	}
}
