package posix_test

import (
	"bytes"
	"fmt"
	"math"
	"math/rand"
	"reflect"
	"slices"
	"strings"
	"testing"

	"undercroft/api"
	"undercroft/dict"
	"undercroft/posix"
)

func is(t *testing.T, got, want api.Errno) {
	t.Helper()
	if got != want {
		t.Errorf("%d, not %d", got, want)
	}
}

func stat(t *testing.T, x *posix.Tree, path string, want api.Stat) {
	t.Helper()
	if s, e := x.Stat(path); s != want || e != api.OK {
		t.Errorf("%s: %v %d", path, s, e)
	}
}

func reads(t *testing.T, x *posix.Tree, path string, at, many int, want string) {
	t.Helper()
	if b, e := x.Read(path, at, many); string(b) != want || e != api.OK {
		t.Errorf("%s: %q %d", path, b, e)
	}
}

func TestExamples(t *testing.T) {
	x := posix.New()
	stat(t, x, "/", api.Stat{Node: 1, Kind: 1, Mode: 493, Links: 1, Size: 256})
	is(t, x.Mkdir("/a", 448), api.OK)
	is(t, x.Create("/a/f", 420), api.OK)
	is(t, x.Write("/a/f", 300, []byte("ab")), api.OK)
	stat(t, x, "/a", api.Stat{Node: 2, Kind: 1, Mode: 448, Links: 1, Size: 256})
	stat(t, x, "/a/f", api.Stat{Node: 3, Kind: 2, Mode: 420, Links: 1, Size: 302})
	c := x.Cells()
	if n := len(c); n != 6 || c[5].Object != 3 || c[5].At != 1 || !bytes.Equal(c[5].Data, append(make([]byte, 44), "ab"...)) || !bytes.Equal(c[4].Data, []byte{2, 0xa4, 1, 1, 0, 0x2e, 1, 0, 0}) || !bytes.Equal(c[0].Data, []byte{1, 0xed, 1, 1, 0, 0, 1, 0, 0}) {
		t.Error(c)
	}
	reads(t, x, "/a/f", 299, 9, "\x00ab")
	is(t, x.Link("/a/f", "/g"), api.OK)
	stat(t, x, "/g", api.Stat{Node: 3, Kind: 2, Mode: 420, Links: 2, Size: 302})
	is(t, x.Remove("/a/f"), api.OK)
	stat(t, x, "/g", api.Stat{Node: 3, Kind: 2, Mode: 420, Links: 1, Size: 302})
	is(t, x.Remove("/a"), api.OK)
	is(t, x.Mkdir("/b", 0), api.OK)
	stat(t, x, "/b", api.Stat{Node: 2, Kind: 1, Links: 1, Size: 256})
	is(t, x.Rename("/g", "/b/g"), api.OK)
	is(t, x.Rename("/b", "/b/c"), api.ErrArg)
	is(t, x.Write("/b", 0, []byte("a")), api.ErrIsDir)
	if _, e := x.Read("/x", 0, 1); e != api.ErrNoFile {
		t.Error(e)
	}
	if s, e := x.Stat("/b/g/h"); s != (api.Stat{}) || e != api.ErrNotDir {
		t.Error(e)
	}
	is(t, x.Mkdir("b", 0), api.ErrPath)
}

func TestPaths(t *testing.T) {
	x := posix.New()
	long := strings.Repeat("n", 24)
	for _, p := range []string{"", "a", "//", "/a/", "/a//b", "/.", "/..", "/a/.", "/a b", "/a\x7f", "/\x20", "/é", "/" + long + "n", strings.Repeat("/a", 9)} {
		_, e1 := x.Stat(p)
		_, e2 := x.List(p)
		_, e3 := x.Read(p, -1, 0)
		for i, e := range []api.Errno{e1, e2, e3, x.Mkdir(p, -1), x.Create(p, -1), x.Write(p, -1, nil), x.Truncate(p, -1), x.Link(p, "/"), x.Link("/none", p), x.Rename(p, "/"), x.Rename("/", p), x.Remove(p), x.Chmod(p, -1)} {
			if e != api.ErrPath {
				t.Error(p, i, e)
			}
		}
	}
	p := ""
	for i := range 8 {
		p += "/" + long
		is(t, x.Mkdir(p, i), api.OK)
	}
	is(t, x.Create("/.a", 0), api.OK)
	is(t, x.Create("/...", 0), api.OK)
	is(t, x.Create("/!~", 0), api.OK)
	if len(p) != 200 {
		t.Error(len(p))
	}
}

func TestMake(t *testing.T) {
	x := posix.New()
	is(t, x.Create("/f", 4095), api.OK)
	for i, c := range []struct {
		path string
		mode int
		e    api.Errno
	}{{"/", -1, 1}, {"/", 0, 182}, {"/f", 4096, 1}, {"/f", 0, 182}, {"/f/g", 0, 183}, {"/x/g", 0, 181}, {"/f/g/h", 0, 183}, {"/d", 0, 0}, {"/d", 0, 182}} {
		y, _ := posix.Open(x.Cells())
		if e, e2 := x.Mkdir(c.path, c.mode), y.Create(c.path, c.mode); e != c.e || e2 != c.e {
			t.Error(i, e, e2)
		}
	}
	for i := 4; i <= 48; i++ {
		is(t, x.Create(fmt.Sprint("/n", i), 0), api.OK)
	}
	before := x.Cells()
	is(t, x.Create("/more", 0), api.ErrFull)
	is(t, x.Mkdir("/d/more", 0), api.ErrFull)
	if !reflect.DeepEqual(x.Cells(), before) {
		t.Error("changed")
	}
	is(t, x.Remove("/n20"), api.OK)
	is(t, x.Remove("/n9"), api.OK)
	is(t, x.Mkdir("/more", 0), api.OK)
	if s, _ := x.Stat("/more"); s.Node != 9 {
		t.Error(s)
	}
}

func TestFiles(t *testing.T) {
	x := posix.New()
	x.Create("/f", 0)
	x.Mkdir("/d", 0)
	for i, c := range []struct {
		path  string
		at, n int
		e     api.Errno
	}{{"/x", -1, 1, 181}, {"/d", -1, 1, 184}, {"/f/x", -1, 1, 183}, {"/f", -1, 0, 186}, {"/f", 8192, 1, 186}, {"/f", math.MaxInt, 1, 186}, {"/f", 8193, 0, 186}, {"/f", 0, 8193, 186}, {"/f", 8192, 0, 0}, {"/f", 0, 0, 0}} {
		if e := x.Write(c.path, c.at, make([]byte, c.n)); e != c.e {
			t.Error(i, e)
		}
	}
	if s, _ := x.Stat("/f"); s.Size != 0 {
		t.Error(s)
	}
	is(t, x.Write("/f", 8190, []byte("yz")), api.OK)
	reads(t, x, "/f", 8189, math.MaxInt, "\x00yz")
	reads(t, x, "/f", 8192, 1, "")
	reads(t, x, "/f", math.MaxInt, math.MaxInt, "")
	reads(t, x, "/f", 8190, 1, "y")
	for i, c := range [][2]int{{-1, 1}, {0, -1}} {
		if b, e := x.Read("/f", c[0], c[1]); len(b) != 0 || e != api.ErrSize {
			t.Error(i, e)
		}
		if _, e := x.Read("/d", c[0], c[1]); e != api.ErrIsDir {
			t.Error(i, e)
		}
	}
	is(t, x.Truncate("/d", -1), api.ErrIsDir)
	is(t, x.Truncate("/x", -1), api.ErrNoFile)
	is(t, x.Truncate("/f", -1), api.ErrSize)
	is(t, x.Truncate("/f", 8193), api.ErrSize)
	is(t, x.Truncate("/f", 8191), api.OK)
	is(t, x.Truncate("/f", 8192), api.OK)
	reads(t, x, "/f", 8190, 9, "y\x00")
	is(t, x.Truncate("/f", 0), api.OK)
	if n := len(x.Cells()); n != 5 {
		t.Error(n)
	}
	in := []byte("ab")
	x.Write("/f", 0, in)
	in[0] = 'x'
	got, _ := x.Read("/f", 0, 9)
	got[1] = 'x'
	x.Cells()[4].Data[0] = 9
	reads(t, x, "/f", 0, 9, "ab")
	full := bytes.Repeat([]byte{1}, 8192)
	is(t, x.Write("/f", 0, full), api.OK)
	if y, e := posix.Open(x.Cells()); e != api.OK {
		t.Error(e)
	} else {
		reads(t, y, "/f", 0, 9000, string(full))
	}
	is(t, x.Truncate("/f", 2), api.OK)
	for i := range 7 { // 7 * 33 cells, and 5 more: 236
		is(t, x.Create(fmt.Sprint("/n", i), 0), api.OK)
		is(t, x.Write(fmt.Sprint("/n", i), 0, full[:8192-i%2*256]), api.OK)
	}
	is(t, x.Create("/y", 0), api.OK)
	n := 240 - len(x.Cells())
	is(t, x.Write("/y", 0, full[:(n+1)*256]), api.ErrFull)
	is(t, x.Write("/y", 0, full[:n*256]), api.OK)
	is(t, x.Write("/y", n*256, []byte{0}), api.OK)
	is(t, x.Write("/y", n*256, []byte{1}), api.ErrFull)
	is(t, x.Create("/z", 0), api.ErrFull)
	if s, _ := x.Stat("/y"); s.Size != n*256+1 {
		t.Error(s)
	}
}

func TestLinkRemove(t *testing.T) {
	x := posix.New()
	x.Create("/f", 0)
	x.Mkdir("/d", 0)
	x.Create("/d/g", 0)
	for i, c := range []struct {
		path, to string
		e        api.Errno
	}{{"/x", "/", 181}, {"/d", "/", 184}, {"/", "/", 184}, {"/f", "/", 182}, {"/f", "/x/y", 181}, {"/f", "/f/y", 183}, {"/f", "/d", 182}, {"/f", "/f", 182}, {"/f", "/d/h", 0}} {
		if e := x.Link(c.path, c.to); e != c.e {
			t.Error(i, e)
		}
	}
	for i, c := range []struct {
		path string
		e    api.Errno
	}{{"/", 1}, {"/x", 181}, {"/f/x", 183}, {"/d", 185}, {"/d/g", 0}, {"/d", 185}, {"/f", 0}, {"/f", 181}} {
		if e := x.Remove(c.path); e != c.e {
			t.Error(i, e)
		}
	}
	stat(t, x, "/d/h", api.Stat{Node: 2, Kind: 2, Links: 1})
	is(t, x.Chmod("/d/h", 4096), api.ErrArg)
	is(t, x.Chmod("/d/h", -1), api.ErrArg)
	is(t, x.Chmod("/x", -1), api.ErrNoFile)
	is(t, x.Chmod("/d/h", 4095), api.OK)
	is(t, x.Chmod("/d/h", 7), api.OK)
	is(t, x.Chmod("/", 0), api.OK)
	stat(t, x, "/d/h", api.Stat{Node: 2, Kind: 2, Mode: 7, Links: 1})
	l, e := x.List("/d")
	if e != api.OK || !slices.Equal(l, []api.Entry{{Name: "h", Value: 2}}) {
		t.Error(l, e)
	}
	if l, e := x.List("/d/h"); len(l) != 0 || e != api.ErrNotDir {
		t.Error(e)
	}
	if _, e := x.List("/x"); e != api.ErrNoFile {
		t.Error(e)
	}
}

func TestRename(t *testing.T) {
	x := posix.New()
	for _, p := range []string{"/d", "/e", "/e/s", "/h"} {
		x.Mkdir(p, 0)
	}
	x.Create("/f", 0)
	x.Create("/g", 0)
	x.Link("/f", "/d/f2")
	for i, c := range []struct {
		path, to string
		e        api.Errno
	}{
		{"/", "/x", 1}, {"/x", "/", 1}, {"/x", "/x/y", 1}, {"/x", "/xy", 181}, {"/f", "/x/y", 181}, {"/f", "/g/y", 183}, {"/f", "/f", 0}, {"/f", "/d/f2", 0},
		{"/d", "/f", 183}, {"/f", "/d", 184}, {"/f", "/h", 184}, {"/d", "/e", 185}, {"/e/s", "/e", 185}, {"/d", "/h", 0}, {"/h/f2", "/h/f3", 0}, {"/g", "/f", 0},
	} {
		if e := x.Rename(c.path, c.to); e != c.e {
			t.Error(i, e)
		}
	}
	l, _ := x.List("/")
	if !slices.Equal(l, []api.Entry{{Name: "e", Value: 3}, {Name: "f", Value: 7}, {Name: "h", Value: 2}}) {
		t.Error(l)
	}
	stat(t, x, "/h/f3", api.Stat{Node: 6, Kind: 2, Links: 1})
	is(t, x.Rename("/f", "/h/f3"), api.OK)
	if n := len(x.Cells()); n != 2*4+1 {
		t.Error(n)
	}
	y := posix.New() // a directory that takes no name more
	y.Mkdir("/d", 0)
	var l2 []string
	for i := 0; len(l2) < 10; i++ {
		if n := fmt.Sprintf("%023d", i); dict.Hash(n)%32 == 3 {
			l2 = append(l2, n)
		}
	}
	y.Create("/f", 0)
	for _, n := range l2[:9] {
		is(t, y.Link("/f", "/d/"+n), api.OK)
	}
	before := y.Cells()
	is(t, y.Create("/d/"+l2[9], 0), api.ErrFull)
	is(t, y.Rename("/f", "/d/"+l2[9]), api.ErrFull)
	is(t, y.Link("/f", "/d/"+l2[9]), api.ErrFull)
	if !reflect.DeepEqual(y.Cells(), before) {
		t.Error("changed")
	}
	is(t, y.Rename("/d/"+l2[0], "/d/"+l2[9]), api.OK)
}

func TestOpen(t *testing.T) {
	x := posix.New()
	x.Mkdir("/d", 0)
	x.Create("/d/f", 1)
	x.Link("/d/f", "/g")
	x.Write("/g", 300, []byte("ab"))
	good := func() []api.Cell { return x.Cells() }
	births := good()
	births[0].Birth = 77
	if y, e := posix.Open(births); e != api.OK || !reflect.DeepEqual(y.Cells(), good()) {
		t.Fatal(e)
	}
	page := func(names ...any) []byte {
		d := dict.New()
		for i := 0; i < len(names); i += 2 {
			d.Put(names[i].(string), names[i+1].(int))
		}
		return d.Pages()[0]
	}
	// 0, 1: the first directory; 2, 3: d; 4, 5: the file's own cell and its chunk 1
	for i, do := range []func(c []api.Cell) []api.Cell{
		func(c []api.Cell) []api.Cell { return nil }, func(c []api.Cell) []api.Cell { return c[2:] }, func(c []api.Cell) []api.Cell { return c[:4] }, func(c []api.Cell) []api.Cell { return c[1:] },
		func(c []api.Cell) []api.Cell { return append(c, c[5]) }, func(c []api.Cell) []api.Cell { return slices.Delete(c, 1, 2) }, func(c []api.Cell) []api.Cell { return slices.Delete(c, 4, 5) }, func(c []api.Cell) []api.Cell { c[0].Data = nil; return c },
		func(c []api.Cell) []api.Cell { c[0].Data[0] = 2; return c }, func(c []api.Cell) []api.Cell { c[0].Data[0] = 3; return c }, func(c []api.Cell) []api.Cell { c[0].Data[2] = 0x10; return c }, func(c []api.Cell) []api.Cell { c[0].Data[3] = 2; return c }, func(c []api.Cell) []api.Cell { c[0].Data[6] = 2; return c },
		func(c []api.Cell) []api.Cell { c[0].Data = append(c[0].Data, 0); return c }, func(c []api.Cell) []api.Cell { c[1].At = 1; return c }, func(c []api.Cell) []api.Cell { c[1].Data[2] = 1; return c },
		func(c []api.Cell) []api.Cell { c[1].Data = page("d", 2); return c }, func(c []api.Cell) []api.Cell { c[1].Data = page("d", 2, "g", 9); return c }, func(c []api.Cell) []api.Cell { c[1].Data = page("d", 2, "e", 2, "g", 3); return c }, func(c []api.Cell) []api.Cell { c[1].Data = page("d", 2, "g", 3, "h", 3); return c }, func(c []api.Cell) []api.Cell { c[1].Data = page("..", 2, "g", 3); return c }, func(c []api.Cell) []api.Cell { c[1].Data = page("a b", 2, "g", 3); return c },
		func(c []api.Cell) []api.Cell { c[1].Data = page("d", 2, "g", 3, "r", 1); return c }, func(c []api.Cell) []api.Cell { c[4].Data[3] = 1; return c }, func(c []api.Cell) []api.Cell { c[4].Data[5]++; return c }, func(c []api.Cell) []api.Cell { c[4].Data[5]--; return c }, func(c []api.Cell) []api.Cell { c[4].Data[6] = 0x21; return c }, func(c []api.Cell) []api.Cell { c[5].At = 0; return c }, func(c []api.Cell) []api.Cell { c[5].At = 2; return c },
		func(c []api.Cell) []api.Cell { clear(c[5].Data); return c }, func(c []api.Cell) []api.Cell { c[5].Data = nil; return c },
		func(c []api.Cell) []api.Cell { // two directories that hang on each other
			c[1].Data = page("g", 3)
			c[3].Data = page("f", 3, "x", 4)
			return append(c, api.Cell{Object: 4, At: -1, Data: []byte{1, 0, 0, 1, 0, 0, 1, 0, 0}}, api.Cell{Object: 4, At: 0, Data: page("x", 2)})
		},
	} {
		if y, e := posix.Open(do(good())); y != nil || e != api.ErrPosix {
			t.Error(i, e)
		}
	}
	var many []api.Cell
	d := []any{}
	for i := 2; i <= 49; i++ {
		d = append(d, fmt.Sprint(i), i)
		many = append(many, api.Cell{Object: i, At: -1, Data: []byte{2, 0, 0, 1, 0, 0, 0, 0, 0}})
	}
	root := dict.New()
	for i := 0; i < len(d); i += 2 {
		root.Put(d[i].(string), d[i+1].(int))
	}
	var dir []api.Cell
	for i, p := range root.Pages() {
		dir = append(dir, api.Cell{Object: 1, At: i, Data: p})
	}
	dir = append([]api.Cell{{Object: 1, At: -1, Data: []byte{1, 0, 0, 1, 0, 0, byte(len(dir)), 0, 0}}}, dir...)
	if y, e := posix.Open(append(dir, many...)); y != nil || e != api.ErrPosix {
		t.Error("49 nodes", e)
	}
}

// TestPlay holds a tree against plain maps.
func TestPlay(t *testing.T) {
	for seed := range int64(10) {
		r := rand.New(rand.NewSource(seed))
		x := posix.New()
		type file struct{ b []byte }
		files, dirs := map[string]*file{}, map[string]bool{"": true}
		pick := func() string {
			p := ""
			for range 1 + r.Intn(3) {
				p += "/" + string(rune('a'+r.Intn(4)))
			}
			return p
		}
		for range 600 {
			p, q := pick(), pick()
			up := func(p string) string { return p[:strings.LastIndexByte(p, '/')] }
			taken := func(p string) bool { return files[p] != nil || dirs[p] }
			before := x.Cells()
			e := api.OK
			switch r.Intn(7) {
			case 0:
				if e = x.Mkdir(p, 0); (e == api.OK) != (dirs[up(p)] && !taken(p)) {
					t.Fatal("Mkdir", p, e)
				} else if e == api.OK {
					dirs[p] = true
				}
			case 1:
				if e = x.Create(p, 0); (e == api.OK) != (dirs[up(p)] && !taken(p)) {
					t.Fatal("Create", p, e)
				} else if e == api.OK {
					files[p] = &file{}
				}
			case 2, 3:
				at, b := r.Intn(900), make([]byte, r.Intn(600))
				r.Read(b)
				if e = x.Write(p, at, b); (e == api.OK) != (files[p] != nil) {
					t.Fatal("Write", p, e)
				} else if e == api.OK && len(b) > 0 {
					f := files[p]
					if len(f.b) < at+len(b) {
						f.b = append(f.b, make([]byte, at+len(b)-len(f.b))...)
					}
					copy(f.b[at:], b)
				}
			case 4:
				if e = x.Link(p, q); (e == api.OK) != (files[p] != nil && dirs[up(q)] && !taken(q)) {
					t.Fatal("Link", p, q, e)
				} else if e == api.OK {
					files[q] = files[p]
				}
			case 5:
				full := false
				for k := range files {
					full = full || strings.HasPrefix(k, p+"/")
				}
				for k := range dirs {
					full = full || strings.HasPrefix(k, p+"/")
				}
				if e = x.Remove(p); (e == api.OK) != (taken(p) && !full) {
					t.Fatal("Remove", p, e)
				} else if e == api.OK {
					delete(files, p)
					delete(dirs, p)
				}
			case 6:
				if e = x.Rename(p, q); e == api.OK && p != q && !(files[p] != nil && files[p] == files[q]) {
					if files[p] != nil {
						files[q] = files[p]
						delete(files, p)
					} else {
						for k := range dirs {
							if k == p || strings.HasPrefix(k, p+"/") {
								delete(dirs, k)
								dirs[q+k[len(p):]] = true
							}
						}
						for k, f := range files {
							if strings.HasPrefix(k, p+"/") {
								delete(files, k)
								files[q+k[len(p):]] = f
							}
						}
					}
				}
			}
			if e != api.OK && !reflect.DeepEqual(x.Cells(), before) {
				t.Fatal("changed beside", e)
			}
			y, e := posix.Open(x.Cells())
			if e != api.OK || !reflect.DeepEqual(y.Cells(), x.Cells()) {
				t.Fatal(e)
			}
			x = y
			for p, f := range files {
				if strings.Count(p, "/") > 8 {
					continue
				}
				s, e := x.Stat(p)
				b, _ := x.Read(p, 0, 1<<20)
				links := 0
				for _, g := range files {
					if g == f {
						links++
					}
				}
				if e != api.OK || !bytes.Equal(b, f.b) || s.Links != links || s.Size != len(f.b) {
					t.Fatal(p, e, s)
				}
			}
		}
	}
}
