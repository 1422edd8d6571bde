package words_test

import (
	"strings"
	"testing"

	"undercroft/api"
	"undercroft/words"
)

func TestNames(t *testing.T) {
	p24 := strings.Repeat("a", 24)
	for s, want := range map[string]bool{"a": true, "0": true, "a.b_c-d": true, p24: true, p24 + "a": false, "": false, ".a": false, "_a": false, "-": false, "A": false, "a/b": false, "a b": false, "é": false} {
		if words.Part(s) != want {
			t.Error(s)
		}
	}
	for s, want := range map[string]bool{"a": true, "a/b": true, strings.Repeat("a/", 7) + "a": true, strings.Repeat("a/", 8) + "a": false, "": false, "/": false, "/a": false, "a/": false, "a//b": false, strings.Repeat(p24+"/", 7) + p24: true} {
		if words.Dataset(s) != want {
			t.Error(s)
		}
	}
	for s, want := range map[string]bool{" ~": true, "": false, "\x1f": false, "\x7f": false, strings.Repeat("x", 64): true, strings.Repeat("x", 65): false} {
		if words.Value(s) != want {
			t.Error(s)
		}
	}
}

func TestContent(t *testing.T) {
	x := []byte("x")
	l := []api.Cell{{Object: 1, At: -1, Data: x}, {Object: 1, At: 255, Data: make([]byte, 256)}, {Object: 1 << 20, Data: x}}
	if !words.Content(nil) || !words.Content(l) || words.Content(append(l, l[2])) {
		t.Error("Content")
	}
	c := words.Copy(l)
	c[0].Data[0] = 'y'
	if x[0] != 'x' || len(words.Copy(nil)) != 0 {
		t.Error("shared")
	}
}
