package ilog_test

import (
	"bytes"
	"math"
	"math/rand"
	"testing"

	"undercroft/api"
	"undercroft/ilog"
)

func TestExamples(t *testing.T) {
	l, e := ilog.New(7)
	if e != api.OK || l.At() != 0 || l.Next() != 1 || l.Base() != 7 {
		t.Fatal(e)
	}
	at, b, e := l.Append([]byte("ab"))
	want := append([]byte("\x07\x00\x00\x00\x00\x00\x00\x00\x01\x00\x00\x00\x00\x00\x01\x00\x02\x00\x00\x00ab"), make([]byte, 66)...)
	if at != 0 || !bytes.Equal(b, want) || e != api.OK {
		t.Errorf("%d % x %d", at, b, e)
	}
	region := make([]byte, api.LogSize)
	copy(region, b)
	long := bytes.Repeat([]byte{9}, 69)
	at, b, e = l.Append(long)
	if at != 88 || len(b) != 176 || e != api.OK || l.At() != 264 || l.Next() != 3 || b[88+12] != 1 || b[14] != 2 || b[88+20] != 9 || b[88+21] != 0 {
		t.Errorf("%d %d %d", at, len(b), e)
	}
	copy(region[at:], b)
	s, r, e := ilog.Scan(7, region)
	if e != api.OK || len(r) != 2 || string(r[0]) != "ab" || !bytes.Equal(r[1], long) || s.At() != 264 || s.Next() != 3 || s.Base() != 7 {
		t.Error(len(r), e)
	}
	if _, r, e = ilog.Scan(8, region); e != api.OK || len(r) != 0 {
		t.Error(len(r), e)
	}
	clear(region[176:264])
	if s, r, e = ilog.Scan(7, region); e != api.OK || len(r) != 1 || s.At() != 88 || s.Next() != 2 {
		t.Error(len(r), e)
	}
}

func TestArgs(t *testing.T) {
	region := make([]byte, api.LogSize)
	for _, base := range []int{-1, api.MaxTxg + 1, math.MaxInt, math.MinInt} {
		l, e := ilog.New(base)
		s, r, e2 := ilog.Scan(base, nil)
		if l != nil || s != nil || len(r) != 0 || e != api.ErrArg || e2 != api.ErrArg {
			t.Error(base, e, e2)
		}
	}
	for _, b := range [][]byte{nil, region[1:], append(region, 0)} {
		if s, r, e := ilog.Scan(0, b); s != nil || len(r) != 0 || e != api.ErrLogForm {
			t.Error(len(b), e)
		}
	}
	if s, r, e := ilog.Scan(0, region); e != api.OK || len(r) != 0 || s.Next() != 1 {
		t.Error(e)
	}
	if l, e := ilog.New(api.MaxTxg); e != api.OK || l.Base() != api.MaxTxg {
		t.Error(e)
	}
}

func TestRoom(t *testing.T) {
	l, _ := ilog.New(0)
	if l.Room(-1) || l.Room(4097) || l.Room(math.MaxInt) || !l.Room(4096) || !l.Room(0) {
		t.Error("Room")
	}
	if at, b, e := l.Append(make([]byte, 4097)); at != 0 || len(b) != 0 || e != api.ErrLong {
		t.Error(e)
	}
	for i := range 4 {
		if at, b, e := l.Append(make([]byte, 4096)); at != i*61*88 || len(b) != 61*88 || e != api.OK {
			t.Error(at, len(b), e)
		}
	}
	if at, b, e := l.Append(make([]byte, 4096)); at != 0 || len(b) != 0 || e != api.ErrLogFull || l.Next() != 5 || l.Room(4096) {
		t.Error(e)
	}
	if _, _, e := l.Append(make([]byte, 4097)); e != api.ErrLong {
		t.Error(e)
	}
	if l.Room(12*68+1) || !l.Room(12*68) {
		t.Error("the rest")
	}
	for range 12 {
		if _, b, e := l.Append(nil); len(b) != 88 || e != api.OK {
			t.Error(e)
		}
	}
	if _, _, e := l.Append(nil); e != api.ErrLogFull || l.At() != api.LogSize || l.Room(0) {
		t.Error(e)
	}
}

// TestTorn writes records over those of other logs, and leaves pieces of the last one out.
func TestTorn(t *testing.T) {
	r := rand.New(rand.NewSource(1))
	region := make([]byte, api.LogSize)
	for base := range 60 {
		l, _ := ilog.New(base)
		var all [][]byte
		full := r.Intn(3) == 0
		for len(all) < r.Intn(30) || full {
			b := make([]byte, r.Intn(400))
			r.Read(b)
			at, p, e := l.Append(b)
			if e == api.ErrLogFull {
				break
			}
			copy(region[at:], p)
			all = append(all, b)
		}
		for i := range region[l.At():] { // a piece is written whole, or not at all
			if x := l.At() + i; x%88 == 0 && r.Intn(9) == 0 {
				region[x+20]++
			}
		}
		check := func(want [][]byte) {
			t.Helper()
			s, got, e := ilog.Scan(base, region)
			if e != api.OK || len(got) != len(want) || s.Next() != len(want)+1 || s.Base() != base {
				t.Fatal(base, e, len(got), len(want))
			}
			end := 0
			for i := range got {
				if !bytes.Equal(got[i], want[i]) {
					t.Fatal(i)
				}
				end += max(1, (len(got[i])+67)/68) * 88
			}
			if s.At() != end {
				t.Fatal(s.At(), end)
			}
		}
		check(all)
		b := make([]byte, 69+r.Intn(3000))
		at, p, e := l.Append(b)
		if e != api.OK {
			continue
		}
		some := false
		for i := 0; i < len(p); i += 88 {
			if r.Intn(2) == 0 && !(some == false && i+88 == len(p)) || i == 88 {
				copy(region[at+i:], p[i:i+88])
			} else {
				some = true
			}
		}
		if some {
			check(all)
		}
	}
}

// TestEnd has records that go on behind the region's end, or that are too long.
func TestEnd(t *testing.T) {
	l, _ := ilog.New(1)
	region := make([]byte, api.LogSize)
	for range 255 {
		at, p, _ := l.Append(nil)
		copy(region[at:], p)
	}
	other, _ := ilog.New(1)
	for range 255 {
		other.Append(nil)
	}
	_, p, _ := other.Append(nil)
	p[14], p[16] = 2, 69 // the first one of two
	copy(region[255*88:], p)
	if s, r, e := ilog.Scan(1, region); e != api.OK || len(r) != 255 || s.At() != 255*88 {
		t.Error(len(r), e)
	}
	clear(region)
	l, _ = ilog.New(1)
	_, p, _ = l.Append(bytes.Repeat([]byte{3}, 4096))
	copy(region, p)
	if _, r, e := ilog.Scan(1, region); e != api.OK || len(r) != 1 || len(r[0]) != 4096 {
		t.Error(len(r), e)
	}
	for i := 0; i < len(p); i += 88 { // 4097 bytes, all else right
		region[i+16] = 1
	}
	region[60*88+20+16] = 3
	if _, r, _ := ilog.Scan(1, region); len(r) != 0 {
		t.Error("a long record")
	}
	for _, n := range []byte{0xff, 0x7f} {
		for i := range 4 {
			region[16+i] = n
		}
		if _, r, e := ilog.Scan(1, region); len(r) != 0 || e != api.OK {
			t.Error(e)
		}
	}
}

func TestStrict(t *testing.T) {
	l, _ := ilog.New(3)
	region := make([]byte, api.LogSize)
	_, p, _ := l.Append([]byte("hello"))
	copy(region, p)
	for i := range 88 {
		region[i] ^= 1
		_, r, _ := ilog.Scan(3, region)
		if inside := i >= 20 && i < 25; (len(r) == 1) != inside {
			t.Error(i, len(r))
		}
		region[i] ^= 1
	}
	_, r, _ := ilog.Scan(3, region)
	r[0][0] = 'x'
	if region[20] != 'h' {
		t.Error("shared")
	}
}
