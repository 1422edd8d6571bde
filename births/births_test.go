package births_test

import (
	"testing"

	"undercroft/api"
	"undercroft/births"
)

func TestList(t *testing.T) {
	l := births.New(2)
	l.Miss(1, 7)
	l.Miss(1, 5)
	if b, ok := l.Lacks(1); !ok || b != (api.Births{From: 5, To: 7}) {
		t.Error(b, ok)
	}
	for _, p := range []int{0, 2, -1} {
		if b, ok := l.Lacks(p); ok || b != (api.Births{}) {
			t.Error(p, b)
		}
	}
	if l.Behind(0, api.Births{From: 3, To: 2}) != api.ErrArg || l.Behind(2, api.Births{From: 1, To: 1}) != api.ErrArg || l.Whole(2) != api.ErrArg || l.Whole(1) != api.OK {
		t.Error("errors")
	}
	if _, ok := l.Lacks(1); ok || l.Has(2) || !l.Has(1) {
		t.Error("whole, and lacks something")
	}
}
