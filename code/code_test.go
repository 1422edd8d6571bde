package code_test

import (
	"bytes"
	"math"
	"strings"
	"testing"

	"undercroft/api"
	"undercroft/code"
)

func laid(most int, does ...func(*code.Writer)) ([]byte, api.Errno) {
	w := code.NewWriter(most)
	for _, f := range does {
		f(w)
	}
	return w.Done()
}

func num(n uint64, b int) func(*code.Writer) { return func(w *code.Writer) { w.Num(n, b) } }
func text(s string) func(*code.Writer)       { return func(w *code.Writer) { w.Text(s) } }
func raw(s string) func(*code.Writer)        { return func(w *code.Writer) { w.Bytes([]byte(s)) } }
func pad(n int) func(*code.Writer)           { return func(w *code.Writer) { w.Pad(n) } }

func TestWriter(t *testing.T) {
	type fs = []func(*code.Writer)
	for i, c := range []struct {
		most int
		does fs
		b    string
		e    api.Errno
	}{
		{100, fs{num(300, 2), text("ab"), pad(8)}, ",\x01\x02\x00ab\x00\x00", api.OK},
		{100, nil, "", api.OK},
		{100, fs{num(256, 1)}, "", api.ErrCodeBig},
		{100, fs{num(255, 1)}, "\xff", api.OK},
		{100, fs{num(1, 9)}, "", api.ErrArg},
		{100, fs{num(1, 0)}, "", api.ErrArg},
		{100, fs{num(1, math.MinInt)}, "", api.ErrArg},
		{8, fs{num(math.MaxUint64, 8)}, "\xff\xff\xff\xff\xff\xff\xff\xff", api.OK},
		{7, fs{num(1, 8)}, "", api.ErrCodeRoom},
		{100, fs{num(1<<56, 7)}, "", api.ErrCodeBig},
		{0, fs{num(256, 1)}, "", api.ErrCodeBig},
		{100, fs{raw("xy"), pad(1)}, "", api.ErrCodeBig},
		{100, fs{raw("xy"), pad(-1)}, "", api.ErrCodeBig},
		{100, fs{raw("xy"), pad(2)}, "xy", api.OK},
		{4, fs{pad(math.MaxInt)}, "", api.ErrCodeRoom},
		{math.MaxInt, fs{pad(math.MaxInt)}, "", api.ErrCodeRoom},
		{4, fs{pad(4)}, "\x00\x00\x00\x00", api.OK},
		{2, fs{num(1, 2), num(1, 1)}, "", api.ErrCodeRoom},
		{-5, fs{num(1, 1)}, "", api.ErrCodeRoom},
		{-5, fs{raw(""), pad(0)}, "", api.OK},
		{2, fs{raw("abc"), raw("a"), num(1, 9)}, "", api.ErrCodeRoom},
		{70000, fs{text(strings.Repeat("x", 65536))}, "", api.ErrCodeBig},
		{3, fs{text(strings.Repeat("x", 65536))}, "", api.ErrCodeBig},
		{3, fs{text("ab")}, "", api.ErrCodeRoom},
		{4, fs{text("ab")}, "\x02\x00ab", api.OK},
	} {
		b, e := laid(c.most, c.does...)
		if string(b) != c.b || e != c.e {
			t.Errorf("%d: % x %d", i, b, e)
		}
	}
	if b, e := laid(65537, text(strings.Repeat("x", 65535))); len(b) != 65537 || b[0] != 255 || b[1] != 255 || e != api.OK {
		t.Error("a long text")
	}
}

func TestWriterKeeps(t *testing.T) {
	w := code.NewWriter(9)
	in := []byte("ab")
	w.Bytes(in)
	in[0] = 'x'
	b, _ := w.Done()
	b[1] = 'y'
	_ = append(b, 'z')
	w.Num(1, 1)
	if c, e := w.Done(); string(c) != "ab\x01" || e != api.OK {
		t.Errorf("%q %d", c, e)
	}
}

func TestReader(t *testing.T) {
	for i, c := range []struct {
		b    string
		does func(*code.Reader)
		e    api.Errno
		left int
	}{
		{"", func(r *code.Reader) {}, api.OK, 0},
		{"a", func(r *code.Reader) {}, api.ErrCodeMore, 1},
		{"a", func(r *code.Reader) { r.Num(0) }, api.ErrArg, 1},
		{"a", func(r *code.Reader) { r.Num(9) }, api.ErrArg, 1},
		{"a", func(r *code.Reader) { r.Num(2) }, api.ErrCodeShort, 1},
		{"a", func(r *code.Reader) { r.Bytes(-1) }, api.ErrArg, 1},
		{"a", func(r *code.Reader) { r.Bytes(2) }, api.ErrCodeShort, 1},
		{"a", func(r *code.Reader) { r.Bytes(math.MaxInt) }, api.ErrCodeShort, 1},
		{"a", func(r *code.Reader) { r.Text(9) }, api.ErrCodeShort, 1},
		{"\x02\x00a", func(r *code.Reader) { r.Text(1) }, api.ErrCodeBig, 3},
		{"\x02\x00a", func(r *code.Reader) { r.Text(2) }, api.ErrCodeShort, 3},
		{"\x00\x00", func(r *code.Reader) { r.Text(-1) }, api.ErrCodeBig, 2},
		{"\x00\x00", func(r *code.Reader) { r.Text(0) }, api.OK, 0},
		{"abc", func(r *code.Reader) { r.Num(2); r.Pad(1) }, api.ErrCodeBig, 1},
		{"abc", func(r *code.Reader) { r.Pad(-1) }, api.ErrCodeBig, 3},
		{"abc", func(r *code.Reader) { r.Pad(4) }, api.ErrCodeShort, 3},
		{"a\x00c", func(r *code.Reader) { r.Num(1); r.Pad(3) }, api.ErrCodePad, 2},
		{"a\x00c", func(r *code.Reader) { r.Num(1); r.Pad(2) }, api.ErrCodeMore, 1},
		{"a\x00\x00", func(r *code.Reader) { r.Num(1); r.Pad(3) }, api.OK, 0},
		{"abc", func(r *code.Reader) { r.Num(9); r.Num(1); r.Bytes(-1); r.Pad(0) }, api.ErrArg, 3},
	} {
		r := code.NewReader([]byte(c.b))
		c.does(r)
		if r.Done() != c.e || r.Left() != c.left {
			t.Errorf("%d: %d %d", i, r.Done(), r.Left())
		}
	}
	for i, does := range []func(*code.Reader) any{func(r *code.Reader) any { return r.Num(7) }, func(r *code.Reader) any { return r.Text(1) }, func(r *code.Reader) any { return string(r.Bytes(7)) }} {
		r := code.NewReader([]byte("abcdef"))
		if x := does(r); x != uint64(0) && x != "" || r.Left() != 6 {
			t.Error(i, x, r.Left())
		}
	}
	r := code.NewReader([]byte("abcdef"))
	r.Num(9)
	if r.Num(1) != 0 || len(r.Bytes(1)) != 0 || r.Text(9) != "" {
		t.Error("something behind an error")
	}
}

func TestReaderKeeps(t *testing.T) {
	in := []byte("abcd")
	r := code.NewReader(in)
	in[2] = 'x'
	b := r.Bytes(2)
	b[0] = 'y'
	_ = append(b, 'z')
	if c := r.Bytes(2); string(c) != "cd" {
		t.Errorf("%q", c)
	}
}

func TestThereAndBack(t *testing.T) {
	for n := uint64(1); n != 0; n <<= 7 {
		for by := 1; by <= 8; by++ {
			b, e := laid(99, num(n-1, by), text("né"), raw("\x00z"), pad(40))
			if e != api.OK {
				continue
			}
			r := code.NewReader(b)
			if m, s, x := r.Num(by), r.Text(3), r.Bytes(2); m != n-1 || s != "né" || !bytes.Equal(x, []byte("\x00z")) {
				t.Errorf("%d in %d: %d %q %q", n, by, m, s, x)
			}
			r.Pad(40)
			if r.Done() != api.OK {
				t.Errorf("%d in %d: %d", n, by, r.Done())
			}
		}
	}
}
