package sum_test

import (
	real "crypto/sha256"
	"encoding/hex"
	"math/rand"
	"strings"
	"testing"

	"undercroft/api"
	"undercroft/sum"
)

// slow is Fletcher's sum as the document tells it.
func slow(b []byte) api.Sum {
	for len(b)%4 != 0 {
		b = append(b[:len(b):len(b)], 0)
	}
	var s api.Sum
	for i := 0; i < len(b); i += 4 {
		s.A += uint64(b[i]) + uint64(b[i+1])<<8 + uint64(b[i+2])<<16 + uint64(b[i+3])<<24
		s.B += s.A
		s.C += s.B
		s.D += s.C
	}
	return s
}

func some(r *rand.Rand, n int) []byte {
	b := make([]byte, n)
	r.Read(b)
	return b
}

func TestOf(t *testing.T) {
	if s, e := sum.Of(api.Fletcher4, []byte{1, 0, 0, 0, 2}); s != (api.Sum{A: 3, B: 4, C: 5, D: 6}) || e != api.OK {
		t.Error(s, e)
	}
	if s, e := sum.Of(api.Fletcher4, nil); s != (api.Sum{}) || e != api.OK {
		t.Error(s, e)
	}
	for _, k := range []int{0, 3, -1, 1 << 40} {
		if s, e := sum.Of(k, []byte("abc")); s != (api.Sum{}) || e != api.ErrSumKind {
			t.Error(k, s, e)
		}
		if sum.Check(k, api.Sum{}, nil) {
			t.Error(k, "checked")
		}
	}
	r := rand.New(rand.NewSource(1))
	for n := range 300 {
		b := some(r, n)
		if s, _ := sum.Of(api.Fletcher4, b); s != slow(b) || !sum.Check(api.Fletcher4, s, b) {
			t.Error("Fletcher4", n)
		}
		h := real.Sum256(b)
		s, e := sum.Of(api.Sha256, b)
		if sum.Print(s) != hex.EncodeToString(h[:]) || e != api.OK || !sum.Check(api.Sha256, s, b) {
			t.Error("Sha256", n)
		}
		if s.D++; sum.Check(api.Sha256, s, b) {
			t.Error("another sum", n)
		}
	}
}

func TestText(t *testing.T) {
	s, _ := sum.Of(api.Sha256, []byte("abc"))
	text := "ba7816bf8f01cfea414140de5dae2223b00361a396177a9cb410ff61f20015ad"
	if sum.Print(s) != text {
		t.Error(sum.Print(s))
	}
	if x, e := sum.Parse(text); x != s || e != api.OK {
		t.Error(x, e)
	}
	if sum.Print(api.Sum{D: 1}) != strings.Repeat("0", 63)+"1" {
		t.Error(sum.Print(api.Sum{D: 1}))
	}
	for _, x := range []string{"", text[1:], text + "0", strings.ToUpper(text), text[:63] + "g", text[:63] + " ", "+" + text[1:], "0x" + text[2:]} {
		if s, e := sum.Parse(x); s != (api.Sum{}) || e != api.ErrSumText {
			t.Error(x, s, e)
		}
	}
}

func TestPieces(t *testing.T) {
	r := rand.New(rand.NewSource(2))
	for n := range 400 {
		b := some(r, r.Intn(100))
		run, at := sum.New(), 0
		for at < len(b) {
			k := min(r.Intn(9), len(b)-at)
			run.Add(b[at : at+k])
			at += k
			if run.Value() != slow(b[:at]) {
				t.Fatal(n, at)
			}
			other := run.Clone()
			other.Add([]byte("xyz"))
			if run.Value() != slow(b[:at]) || other.Value() != slow(append(b[:at:at], "xyz"...)) {
				t.Fatal(n, at, "clone")
			}
		}
	}
	if sum.New().Value() != (api.Sum{}) {
		t.Error("of nothing")
	}
	x, y := slow([]byte("abcd")), sum.New()
	y.Add([]byte("abcd\x00\x00\x00\x00"))
	if y.Value().A != x.A || y.Value().B != x.B+x.A {
		t.Error("noughts")
	}
}
