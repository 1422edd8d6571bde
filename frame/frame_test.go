package frame_test

import (
	"bytes"
	"math/rand"
	"reflect"
	"strings"
	"testing"

	"undercroft/api"
	"undercroft/frame"
	"undercroft/sum"
)

func is(t *testing.T, got, want api.Errno) {
	t.Helper()
	if got != want {
		t.Errorf("%d, not %d", got, want)
	}
}

var x240 = strings.Repeat("x", 240)

func TestForms(t *testing.T) {
	b, e := frame.Request(api.Request{Session: 1, ID: 2, Verb: 3})
	if e != api.OK || len(b) != 41 || !bytes.HasPrefix(b, []byte{0x25, 0, 0, 0, 1, 1, 2, 0, 0, 0, 3, 0, 0, 0, 0}) {
		t.Errorf("% x %d", b, e)
	}
	s, _ := sum.Of(api.Sha256, b[4:33])
	for i := range 8 {
		if b[33+i] != byte(s.A>>(8*i)) {
			t.Error("sum")
		}
	}
	b, _ = frame.Request(api.Request{Session: 8, ID: 258, Verb: 255, Name: "n", Item: "it", Other: "o", Path: "/p", At: 3, Many: 1 << 40, Data: []byte("da")})
	if want := "\x01\x08\x02\x01\x00\x00\xff\x01\x00n\x02\x00it\x01\x00o\x02\x00/p\x03\x00\x00\x00\x00\x00\x00\x00\x00\x00\x00\x01\x02\x00da"; string(b[4:len(b)-8]) != want {
		t.Errorf("% x", b)
	}
	b, _ = frame.Reply(api.Reply{Session: 1, ID: 2, Err: 258, Number: 5, Text: "t", List: []string{"a", ""}, Data: []byte("d")})
	if want := "\x02\x01\x02\x00\x00\x00\x02\x01\x05\x00\x00\x00\x00\x00\x01\x00t\x02\x00\x01\x00a\x00\x00\x01\x00d"; string(b[4:len(b)-8]) != want {
		t.Errorf("% x", b)
	}
}

func TestMayBe(t *testing.T) {
	least := api.Request{Session: 1, ID: 1, Verb: 1}
	if b, e := frame.Request(least); e != api.OK {
		t.Error(e)
	} else if r, e := frame.ReadRequest(b); e != api.OK || r.ID != 1 || r.Verb != 1 || r.Name != "" || len(r.Data) != 0 {
		t.Error(r, e)
	}
	ok := api.Request{Session: 8, ID: 1 << 30, Verb: 255, Name: x240, Item: x240, Other: x240, Path: x240, At: 1 << 40, Many: 1 << 40, Data: make([]byte, 2048)}
	for i, do := range []func(r *api.Request){
		func(r *api.Request) {}, func(r *api.Request) { r.Session = 0 }, func(r *api.Request) { r.Session = 9 }, func(r *api.Request) { r.ID = 0 }, func(r *api.Request) { r.ID++ }, func(r *api.Request) { r.Verb = 0 }, func(r *api.Request) { r.Verb++ }, func(r *api.Request) { r.Name += "x" }, func(r *api.Request) { r.Item += "x" }, func(r *api.Request) { r.Other += "x" }, func(r *api.Request) { r.Path += "x" },
		func(r *api.Request) { r.At = -1 }, func(r *api.Request) { r.At++ }, func(r *api.Request) { r.Many = -1 }, func(r *api.Request) { r.Many++ }, func(r *api.Request) { r.Data = make([]byte, 2049) },
	} {
		r := ok
		do(&r)
		b, e := frame.Request(r)
		if i > 0 {
			if e != api.ErrFrame || len(b) != 0 {
				t.Error(i, e)
			}
			continue
		}
		if x, e2 := frame.ReadRequest(b); e != api.OK || e2 != api.OK || !reflect.DeepEqual(x, r) || len(b) > api.MaxRequest {
			t.Error(i, e, e2)
		}
		if x, e := frame.ReadReply(b); e != api.ErrFrame || !reflect.DeepEqual(x, api.Reply{}) {
			t.Error(e)
		}
	}
	list := make([]string, 240)
	for i := range list {
		list[i] = x240
	}
	full := api.Reply{Session: 8, ID: 1 << 30, Err: 999, Number: 1 << 40, Text: strings.Repeat("t", 2048), List: list, Data: make([]byte, 4096)}
	for i, do := range []func(r *api.Reply){
		func(r *api.Reply) {}, func(r *api.Reply) { r.Session = -1 }, func(r *api.Reply) { r.Session = 9 }, func(r *api.Reply) { r.ID = -1 }, func(r *api.Reply) { r.ID++ }, func(r *api.Reply) { r.Err = -1 }, func(r *api.Reply) { r.Err++ }, func(r *api.Reply) { r.Number = -1 }, func(r *api.Reply) { r.Number++ }, func(r *api.Reply) { r.Text += "t" },
		func(r *api.Reply) { r.List = append(r.List, "") }, func(r *api.Reply) { r.List = []string{"", x240 + "x"} }, func(r *api.Reply) { r.Data = make([]byte, 4097) },
	} {
		r := full
		do(&r)
		b, e := frame.Reply(r)
		if i > 0 {
			if e != api.ErrFrame || len(b) != 0 {
				t.Error(i, e)
			}
			continue
		}
		if x, e2 := frame.ReadReply(b); e != api.OK || e2 != api.OK || !reflect.DeepEqual(x, r) {
			t.Error(i, e, e2)
		}
		if x, e := frame.ReadRequest(b); e != api.ErrFrame || !reflect.DeepEqual(x, api.Request{}) {
			t.Error(e)
		}
	}
	b, e := frame.Reply(api.Reply{})
	if x, e2 := frame.ReadReply(b); e != api.OK || e2 != api.OK || x.Session != 0 || len(x.List) != 0 {
		t.Error(e, e2)
	}
}

// resealed is a kind and a body as a frame.
func resealed(b string) []byte {
	n := len(b) + 8
	out := append([]byte{byte(n), byte(n >> 8), 0, 0}, b...)
	s, _ := sum.Of(api.Sha256, []byte(b))
	for i := range 8 {
		out = append(out, byte(s.A>>(8*i)))
	}
	return out
}

func TestRead(t *testing.T) {
	b, _ := frame.Request(api.Request{Session: 1, ID: 2, Verb: 3, Name: "n", Data: []byte("d")})
	for i := range b {
		x := bytes.Clone(b)
		x[i] ^= 2
		want := api.ErrFrameSum
		if i < 4 {
			want = api.ErrFrame
		}
		if r, e := frame.ReadRequest(x); e != want || !reflect.DeepEqual(r, api.Request{}) {
			t.Error(i, e)
		}
	}
	for i, x := range [][]byte{nil, b[:12], b[:len(b)-1], append(bytes.Clone(b), 0), make([]byte, 65537), append([]byte{0xfd, 0xff, 0, 0}, make([]byte, 65533)...)} {
		_, e := frame.ReadRequest(x)
		_, e2 := frame.ReadReply(x)
		if e != api.ErrFrame || e2 != api.ErrFrame {
			t.Error(i, e, e2)
		}
	}
	if _, e := frame.ReadRequest(append([]byte{0xfc, 0xff, 0, 0}, make([]byte, 65532)...)); e != api.ErrFrameSum {
		t.Error(e)
	}
	body := string(b[4 : len(b)-8])
	for i, x := range []string{"\x02" + body[1:], "\x03" + body[1:], "\x01", body[:len(body)-1], body + "x", "\x01\x00" + body[2:], "\x01\x09" + body[2:], body[:2] + "\x01\x00\x00\x41" + body[6:], body[:6] + "\x00" + body[7:], body[:7] + "\xff\xff" + body[9:]} {
		if r, e := frame.ReadRequest(resealed(x)); e != api.ErrFrame || !reflect.DeepEqual(r, api.Request{}) {
			t.Error(i, e)
		}
	}
	for i, x := range []string{"\x02\x01\x01\x00\x00\x00\x00\x00\x00\x00\x00\x00\x00\x00\x00\x00\xff\xff", "\x02\x01\x01\x00\x00\x00\xe8\x03\x00\x00\x00\x00\x00\x00\x00\x00\x00\x00\x00\x00"} {
		if r, e := frame.ReadReply(resealed(x)); e != api.ErrFrame || !reflect.DeepEqual(r, api.Reply{}) {
			t.Error(i, e)
		}
	}
	if r, e := frame.ReadRequest(resealed(body)); e != api.OK || r.Name != "n" {
		t.Error(e)
	}
}

func TestLine(t *testing.T) {
	b, _ := frame.Request(api.Request{Session: 1, ID: 2, Verb: 3})
	l := frame.New()
	f, e := l.Feed(b[:10])
	if len(f) != 0 || e != api.OK || l.Left() != 10 {
		t.Error(e, l.Left())
	}
	f, e = l.Feed(b[10:])
	if len(f) != 1 || !bytes.Equal(f[0], b) || e != api.OK || l.Left() != 0 {
		t.Error(e, l.Left())
	}
	for _, bad := range []string{"\x08\x00\x00\x00", "\xfd\xff\x00\x00", "\xff\xff\xff\xff"} {
		f, e = l.Feed(append(append(bytes.Clone(b), b...), bad+"xyz"...))
		if len(f) != 2 || e != api.ErrFrame || l.Left() != 0 {
			t.Error(len(f), e, l.Left())
		}
	}
	if f, e = l.Feed([]byte("\x09\x00\x00\x00")); len(f) != 0 || e != api.OK || l.Left() != 4 {
		t.Error(e)
	}
	if f, e = l.Feed([]byte("123456789\xfc\xff\x00\x00")); len(f) != 1 || string(f[0]) != "\x09\x00\x00\x00123456789" || e != api.OK || l.Left() != 4 {
		t.Error(e, l.Left())
	}
	f[0][0] = 77
	if f, e = l.Feed(make([]byte, 65532)); len(f) != 1 || len(f[0]) != 65536 || e != api.OK {
		t.Error(e)
	}
	r := rand.New(rand.NewSource(1))
	var all []byte
	var want [][]byte
	for i := range 50 {
		x, _ := frame.Reply(api.Reply{ID: i, Data: make([]byte, r.Intn(900))})
		all, want = append(all, x...), append(want, x)
	}
	var got [][]byte
	for len(all) > 0 {
		n := min(1+r.Intn(1500), len(all))
		f, e := l.Feed(all[:n])
		is(t, e, api.OK)
		got, all = append(got, f...), all[n:]
	}
	if !reflect.DeepEqual(got, want) || l.Left() != 0 {
		t.Error(len(got))
	}
}
