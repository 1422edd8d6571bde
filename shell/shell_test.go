package shell_test

import (
	"fmt"
	"strings"
	"testing"

	"undercroft/api"
	"undercroft/shell"
)

// tells runs a text that may be.
func tells(t *testing.T, text string) string {
	t.Helper()
	s, e, n := shell.Run(text)
	if e != api.OK || n != 0 {
		t.Fatalf("%d in line %d:\n%s", e, n, text)
	}
	return s
}

func TestExamples(t *testing.T) {
	for _, x := range examples() {
		if got := tells(t, x.text); got != x.tells {
			t.Errorf("%s\n%s\nnot\n%s", x.what, got, x.tells)
		}
		lines := strings.Split(x.text, "\n")
		whole := strings.SplitAfter(x.tells, "\n")
		done := 0
		for i, l := range lines { // what it tells up to a line, and then the rest
			if l != "" && l[0] != '#' {
				done++
			}
			if got := tells(t, strings.Join(lines[:i+1], "\n")+"\n# passed over\n"); got != strings.Join(whole[:done], "") {
				t.Errorf("%s up to line %d: %s", x.what, i+1, got)
			}
		}
	}
}

func TestLong(t *testing.T) {
	for _, c := range []struct {
		text string
		e    api.Errno
	}{{"", 0}, {strings.Repeat("\n", 1999), 0}, {strings.Repeat("\n", 2000), 2}, {"bad" + strings.Repeat("\n", 2000), 2}, {"#" + strings.Repeat("x", 65535), 0}, {"#" + strings.Repeat("x", 65536), 2}} {
		if s, e, n := shell.Run(c.text); s != "" || e != c.e || n != 0 {
			t.Error(len(c.text), e, n)
		}
	}
}

const start = "make a mirror 2 2048 1\nmake b parity 3 2048 2\n"

func TestBadLines(t *testing.T) {
	for _, l := range []string{
		" ", "x", "A", "a", "b", "a ", "a  datasets", " a datasets", "a datasets ", "a datasets x", "a nothing", "c datasets", "a Create tank/d", "make", "make a", "make c mirror 2 2048 1", "make a mirror 2 2048", "make a mirror 2 2048 1 1", "make a raid 2 2048 1", "make a mirror x 2048 1", "make a mirror 2 02048 1", "make a mirror -2 2048 1", "make a mirror 2 2048 ", "make a mirror 2 2048 1000000000000000",
		"crash", "crash c", "crash a b", "crash ", "keep", "keep x", "fail a", "fail a 2", "fail b 3", "fail a x", "fail a 00", "fail x 0", "fail a 0 0", "new a", "new a 2", "new a -", "state", "state c", "state a a", "replicate a tank s -", "replicate a tank s - tank/x y", "replicate c tank s - tank/x", "replicate a tank  - tank/x",
		"a create", "a create tank/d x", "a create tank/d 1 2", "a create tank/d +1", "a destroy", "a rename tank/d", "a snapshot tank", "a clone tank s", "a set tank p", "a quota tank", "a quota tank 1x", "a quota tank 0x1", "a mkdir tank /x", "a mkdir tank /x 01", "a write tank /x 0", "a write tank /x 0 t sink", "a write tank /x 0 t sync x", "a write tank /x t 0", "a link tank /x", "a list tank", "a read tank /x 0", "a read tank /x 0 1 s x", "a put tank 0", "a view tank 0", "a sync x", "a read tank /x 0 1234567890123456", "\ta datasets", "a\tdatasets", "a datasets\r",
	} {
		if s, e, n := shell.Run(start + "a datasets\n" + l + "\nx"); s != "" || e != api.ErrShellLine || n != 4 {
			t.Errorf("%q: %q %d %d", l, s, e, n)
		}
	}
	for _, l := range []string{"a datasets", "crash a", "keep a", "fail a 0", "new a 0", "state a", "replicate b tank s - tank/x", "replicate a tank s - tank/x"} {
		if s, e, n := shell.Run("make b mirror 2 2048 1\nmake a mirror 2 300 1\n\n" + l); s != "" || e != api.ErrShellLine || n != 4 {
			t.Errorf("%q: %q %d %d", l, s, e, n)
		}
	}
}

func TestVerbs(t *testing.T) {
	got := tells(t, start+`a create tank/d
a create tank/v 512
a file tank/d /f 420
a write tank/d /f 0 x sync
a truncate tank/d /f 3
a chmod tank/d /f 7
a link tank/d /f /g
a move tank/d /g /h
a mkdir tank/d /m 1
a remove tank/d /m
a list tank/d /
a stat tank/d /f
a read tank/d /f 0 9
a put tank/v 0 ab
a discard tank/v 0 1
a view tank/v 0 3
a snapshot tank/d s
a bookmark tank/d s m
a forget tank/d m
a clone tank/d s tank/e
a promote tank/e
a snaps tank/e
a rollback tank/e s
a read tank/e /f 0 9 s
a release tank/e s
a rename tank/e tank/f
a destroy tank/f
a set tank zip on
a get tank/d zip
a quota tank/d 5000
a reserve tank/d 4000
a used tank/d
a used tank
a sync
a datasets
a quota tank 999999999999999
a datasets
state a
state b`)
	want := `ok 29696
ok 71936
ok
ok
ok
ok
ok
ok
ok
ok
ok
ok
ok [f 2, h 2]
ok 3 [2, 2, 7, 2]
ok 780000
ok
ok
ok 006200
ok
ok
ok
ok
ok
ok [s 1048577 13]
ok
ok 780000
error 174
ok
error 174
ok
ok "on" [tank]
ok
ok
ok [0]
ok [4729]
ok
ok [tank, tank/d, tank/f, tank/v]
error 250
ok [tank, tank/d, tank/f, tank/v]
tank tank/d tank/f tank/v; logged 24; flushed 24
tank; logged 0; flushed 0
`
	g, w := strings.Split(got, "\n"), strings.Split(want, "\n")
	for i := range min(len(g), len(w)) {
		if g[i] != w[i] {
			t.Errorf("%d: %s, not %s", i, g[i], w[i])
		}
	}
	if len(g) != len(w) {
		t.Error(len(g), len(w))
	}
}

func TestMake(t *testing.T) {
	for _, c := range []struct{ line, tells string }{
		{"make a single 1 2048 1", "ok 29696"}, {"make a mirror 6 99999 1", "error 1"}, {"make a mirror 6 2048 1", "error 1"}, {"make a mirror 5 2048 1", "ok 29696"}, {"make a mirror 2 99999 1", "error 1"}, {"make a mirror 0 99999 1", "error 80"}, {"make a mirror 1 2048 1", "error 80"}, {"make a single 2 2048 1", "error 80"}, {"make a parity 2 2048 1", "error 80"}, {"make a mirror 2 323 1", "error 80"},
		{"make a mirror 2 600 1", "error 3"}, {"make a mirror 2 932 1", "error 3"}, {"make a mirror 2 964 1", "ok 4352"}, {"make a mirror 2 2048 1048576", "error 1"}, {"make a mirror 2 2048 1048575", "ok 29696"}, {"make a mirror 2 2048 999999999999999", "error 1"},
	} {
		if got := tells(t, c.line); got != c.tells+"\n" {
			t.Errorf("%s: %s", c.line, got)
		}
	}
	got := tells(t, "make a mirror 2 2048 1\na create tank/d\nmake a mirror 2 600 1\na datasets\nmake a mirror 2 2048 1\na datasets\nstate a\na create tank/e\nstate a")
	if got != "ok 29696\nok\nerror 3\nok [tank, tank/d]\nok 29696\nok [tank]\ntank; logged 0; flushed 0\nok\ntank tank/e; logged 1; flushed 1\n" {
		t.Error(got)
	}
}

func TestDisks(t *testing.T) {
	got := tells(t, "make a single 1 2048 1\nfail a 0\nnew a 0\nmake b mirror 3 2048 1\nnew b 1\nfail b 1\nfail b 2\nnew b 2\nb create tank/d\ncrash b\nfail b 0\nnew b 1\nnew b 1\nfail b 0\ncrash b\nb datasets\nnew b 0\nfail b 2\nkeep b\nb datasets\nstate b")
	want := "ok 29696\nerror 250\nerror 250\nok 29696\nerror 250\nok\nerror 250\nerror 250\nok\nok 1\nerror 250\nok\nerror 250\nok\nok 1\nok [tank, tank/d]\nok\nok\nok 1\nok [tank, tank/d]\ntank tank/d; logged 1; flushed 1\n"
	if got != want {
		t.Error(got)
	}
	// what was logged is on the new disk, too, though it is not said to be flushed
	got = tells(t, "make a mirror 2 2048 1\na create tank/d\na mkdir tank/d /x 0\nfail a 0\nnew a 0\nstate a\nfail a 1\ncrash a\na list tank/d /")
	if got != "ok 29696\nok\nok\nok\nok\ntank tank/d; logged 2; flushed 1\nok\nok 2\nok [x 2]\n" {
		t.Error(got)
	}
}

func TestReplicate(t *testing.T) {
	long := strings.Repeat("x", 241)
	got := tells(t, start+"replicate a tank s - tank/c\na snapshot tank s\nreplicate a tank s - tank/c\nreplicate a tank s - tank/c\nreplicate b tank/c s - tank/e\ncrash b\nb datasets\nreplicate b tank/c s x tank/e\nreplicate a tank s - "+long+"\nreplicate a tank s - TANK\nmake b mirror 2 2048 7\nreplicate a tank s - tank/c\nb snaps tank/c")
	want := "ok 29696\nok 71936\nfailed 171\nok\ndone\nfailed 172\nfailed 172\nok 10\nok [tank, tank/c]\nfailed 210\nfailed 260\nfailed 170\nok 29696\ndone\nok [s 1048577 1]\n"
	if got != want {
		t.Error(got)
	}
}

func TestFullLogs(t *testing.T) {
	var b strings.Builder
	b.WriteString("make a parity 4 900 2\na create tank/d\na file tank/d /f 0\n")
	for i := range 1200 {
		fmt.Fprintf(&b, "a write tank/d /f %d %s\n", i*7, fmt.Sprintf("n%05d.", i))
		if i%97 == 0 {
			b.WriteString("keep a\n")
		}
	}
	b.WriteString("crash a\na read tank/d /f 8386 99\n")
	text := b.String()
	got := tells(t, text)
	if got != tells(t, text) {
		t.Error("not the same twice")
	}
	if i := strings.Index(got, "error"); i < 0 || !strings.Contains(got[i:], "error 186") {
		t.Error("beyond a file's end")
	}
}
