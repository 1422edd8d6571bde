package dict_test

import (
	"bytes"
	"fmt"
	"math"
	"math/rand"
	"reflect"
	"slices"
	"strings"
	"testing"

	"undercroft/api"
	"undercroft/dict"
)

func is(t *testing.T, got, want api.Errno) {
	t.Helper()
	if got != want {
		t.Errorf("%d, not %d", got, want)
	}
}

func page(s string) []byte { return append([]byte(s), make([]byte, 256-len(s))...) }

func TestHash(t *testing.T) {
	if dict.Hash("") != 2166103257 {
		t.Error(dict.Hash(""))
	}
	h := uint64(2166136261)
	for _, c := range []byte("a\xff") {
		h = (h ^ uint64(c)) * 16777619 % (1 << 32)
	}
	if dict.Hash("a\xff") != uint32(h^h/65536) {
		t.Error("a, ff")
	}
}

func TestSmall(t *testing.T) {
	d := dict.New()
	if p := d.Pages(); len(p) != 1 || !bytes.Equal(p[0], page("m")) || d.Len() != 0 || len(d.List()) != 0 {
		t.Error(p)
	}
	is(t, d.Put("a", 5), api.OK)
	if p := d.Pages(); len(p) != 1 || !bytes.Equal(p[0], page("m\x01\x00\x01a\x05")) {
		t.Errorf("% x", p[0][:12])
	}
	for _, c := range []struct {
		name  string
		value int
		e     api.Errno
	}{{strings.Repeat("x", 25), 1, 150}, {"", -1, 150}, {"a", -1, 1}, {"b", math.MaxInt32 + 1, 1}, {"b", math.MaxInt, 1}, {"\x00\xff", math.MaxInt32, 0}, {strings.Repeat("x", 24), 0, 0}, {"a", 258, 0}} {
		is(t, d.Put(c.name, c.value), c.e)
	}
	want := []api.Entry{{Name: "\x00\xff", Value: math.MaxInt32}, {Name: "a", Value: 258}, {Name: strings.Repeat("x", 24)}}
	if !slices.Equal(d.List(), want) || d.Len() != 3 {
		t.Error(d.List())
	}
	for _, n := range []string{"", "b", "aa", strings.Repeat("x", 25)} {
		if v, ok := d.Get(n); v != 0 || ok {
			t.Error(n, v)
		}
		is(t, d.Drop(n), api.ErrNone)
	}
	if v, ok := d.Get("a"); v != 258 || !ok {
		t.Error(v)
	}
	is(t, d.Drop("a"), api.OK)
	is(t, d.Drop("a"), api.ErrNone)
	if p := d.Pages(); !bytes.HasPrefix(p[0], []byte("m\x02\x00\x02\x00\xff\xff\xff\xff\x7f\x18xx")) {
		t.Errorf("% x", p[0][:12])
	}
}

func name(i int) string { return fmt.Sprintf("%023d", i) }

func TestHashed(t *testing.T) {
	d := dict.New()
	for i := range 9 {
		is(t, d.Put(name(i), i), api.OK)
	}
	if len(d.Pages()) != 1 {
		t.Error("nine make it hashed")
	}
	is(t, d.Put(name(9), 9), api.OK)
	p := d.Pages()
	if len(p) < 3 || p[0][0] != 'r' || p[0][1] < 1 || p[1][0] != 'l' {
		t.Errorf("% x", p[0][:8])
	}
	for i := range 10 {
		is(t, d.Drop(name(i)), api.OK)
	}
	if q := d.Pages(); len(q) != len(p) || d.Len() != 0 {
		t.Error("pages went")
	}
}

// alike makes names whose hashes leave the same.
func alike(many, places int) []string {
	var l []string
	for i := 0; len(l) < many; i++ {
		if int(dict.Hash(name(i)))%places == 3 {
			l = append(l, name(i))
		}
	}
	return l
}

func TestFull(t *testing.T) {
	d := dict.New()
	l := alike(10, 32)
	for _, n := range l[:9] {
		is(t, d.Put(n, 1), api.OK)
	}
	is(t, d.Put(l[9], 1), api.ErrDictFull)
	if p := d.Pages(); len(p) != 1 || d.Len() != 9 {
		t.Error("a small one is another one")
	}
	l = alike(10, 16) // the tenth splits four times
	d = dict.New()
	other := 0
	for dict.Hash(name(other))%16 == 3 {
		other++
	}
	for _, n := range l {
		if d.Put(n, 1) != api.OK {
			break
		}
	}
	is(t, d.Put(name(other), 7), api.OK)
	p := d.Pages()
	if len(p) < 5 {
		t.Error(len(p))
	}
	d = dict.New() // a hashed one stays as it was, too
	for i := range 20 {
		is(t, d.Put(name(i), i), api.OK)
	}
	refused := false
	for _, n := range alike(40, 32) {
		before := d.Pages()
		e := d.Put(n, 3)
		if e == api.ErrDictFull {
			refused = true
			if !reflect.DeepEqual(d.Pages(), before) {
				t.Error("changed")
			}
		}
	}
	if !refused {
		t.Error("never full")
	}
}

func TestModel(t *testing.T) {
	for seed := range int64(8) {
		r := rand.New(rand.NewSource(seed))
		d, m := dict.New(), map[string]int{}
		for i := range 1500 {
			b := make([]byte, 1+r.Intn(24))
			for k := range b {
				b[k] = byte(97 + r.Intn(3))
			}
			n, v := string(b), r.Intn(math.MaxInt32)
			if r.Intn(4) == 0 {
				if _, ok := m[n]; ok != (d.Drop(n) == api.OK) {
					t.Fatal("Drop")
				}
				delete(m, n)
			} else if e := d.Put(n, v); e == api.OK {
				m[n] = v
			} else if e != api.ErrDictFull {
				t.Fatal(e)
			}
			if i%10 == 0 {
				o, e := dict.Open(d.Pages())
				if e != api.OK || !reflect.DeepEqual(o.Pages(), d.Pages()) {
					t.Fatal(e)
				}
				d = o
			}
		}
		if d.Len() != len(m) || len(d.List()) != len(m) || len(d.Pages()) > api.MaxPages {
			t.Fatal(d.Len(), len(m))
		}
		for i, x := range d.List() {
			if v, ok := d.Get(x.Name); m[x.Name] != x.Value || v != x.Value || !ok || i > 0 && d.List()[i-1].Name >= x.Name {
				t.Fatal(x)
			}
		}
	}
}

func TestOpen(t *testing.T) {
	bad := func(what string, pages ...[]byte) {
		t.Helper()
		if d, e := dict.Open(pages); d != nil || e != api.ErrDictForm {
			t.Error(what, e)
		}
	}
	bad("none")
	bad("short", make([]byte, 255))
	bad("long", append(page("m"), 0))
	bad("noughts", page(""))
	bad("third byte", page("m\x00\x01"))
	bad("too few", page("m\x01"))
	bad("too many", page("m\x00\x00\x01a\x05"))
	bad("long name", page("m\x01\x00\x19"+strings.Repeat("x", 25)))
	bad("value", page("m\x01\x00\x01a\x00\x00\x00\x80"))
	bad("order", page("m\x02\x00\x01b\x00\x00\x00\x00\x01a"))
	bad("twice", page("m\x02\x00\x01a\x00\x00\x00\x00\x01a"))
	bad("beyond", page("m\xff\x00"+strings.Repeat("\x01a\x00\x00\x00\x00", 42)))
	full := ""
	for i := range 42 {
		full += "\x01" + string([]byte{byte(i + 1)}) + "\x00\x00\x00\x00"
	}
	if d, e := dict.Open([][]byte{page("m\x2a\x00" + full)}); e != api.OK || d.Len() != 42 {
		t.Error(e)
	}
	bad("an entry beyond the page", page("m\x2b\x00"+full+"\x01"))
	full = full[:41*6] + "\x02zz\x00\x00\x00\x00"
	if d, e := dict.Open([][]byte{page("m\x2a\x00" + full)}); e != api.OK || d.Len() != 42 {
		t.Error(e)
	}
	bad("an entry behind the page", page("m\x2b\x00"+full))
	bad("a long entry", page("m\x0a\x00"+full[:9*6]+strings.Repeat("\x18"+strings.Repeat("z", 24)+"\x00\x00\x00\x00", 6)+"\x18"+strings.Repeat("z", 23)))
	for n := 20; n <= 24; n++ { // the last one ends behind the page
		head := "m\x0a\x00"
		for i := range 9 {
			head += "\x15" + string([]byte{byte('a' + i)}) + strings.Repeat("x", 20) + "\x00\x00\x00\x00"
		}
		rest := 256 - len(head)
		last := append([]byte{byte(n)}, bytes.Repeat([]byte("z"), rest-1)...)
		for i := 1 + n; i < len(last); i++ {
			last[i] = 0
		}
		d, e := dict.Open([][]byte{append([]byte(head), last[:rest]...)})
		if fits := 1+n+4 <= rest; (e == api.OK) != fits || fits && d.Len() != 10 {
			t.Error("the last entry", n, rest, e)
		}
	}
	bad("a leaf alone", page("l"))
	bad("a root alone", page("r\x00\x01"))
	if d, e := dict.Open([][]byte{page("r\x00\x01"), page("l")}); e != api.OK || d.Len() != 0 {
		t.Error(e)
	}
	bad("two small", page("m"), page("m"))
	bad("no such page", page("r\x00\x02"), page("l"))
	bad("page 0", page("r\x00\x00"), page("l"))
	bad("noughts behind the table", page("r\x00\x01\x01"), page("l"))
	bad("too deep", page("r\x00\x01"), page("l\x01"))
	bad("none is as deep", page("r\x01\x01\x01"), page("l"))
	bad("not in the table", page("r\x00\x01"), page("l"), page("l"))
	bad("depth 6", page("r\x06"+strings.Repeat("\x01", 64)), page("l\x06"))
	bad("places", page("r\x01\x01\x02"), page("l\x00"), page("l\x01"))
	bad("places", page("r\x01\x01\x01"), page("l\x01"))
	bad("a small leaf", page("r\x00\x01"), page("m"))
	many := [][]byte{page("r\x05" + strings.Repeat("\x01", 32))}
	for range 33 {
		many = append(many, page("l\x05"))
	}
	bad("many", many...)
	d := dict.New()
	for i := range 30 {
		d.Put(name(i), i)
	}
	p := d.Pages()
	for i := range p {
		for k := range p[i] {
			q := d.Pages()
			q[i][k] ^= 0x40
			x, e := dict.Open(q)
			if e == api.OK && !reflect.DeepEqual(x.Pages(), q) {
				t.Error("taken, but not as it was", i, k)
			}
		}
	}
	if _, e := dict.Open(p); e != api.OK {
		t.Error(e)
	}
	wrong := d.Pages()
	wrong[1], wrong[2] = wrong[2], wrong[1] // names under another prefix
	bad("prefix", wrong...)
}
