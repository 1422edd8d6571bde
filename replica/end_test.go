package replica

import (
	"testing"

	"undercroft/api"
)

// TestLastNumber has a replica that has asked as often as numbers go (P26.4): too often to be asked here.
func TestLastNumber(t *testing.T) {
	r, e := New(api.Job{Session: 1, First: 1})
	if e != api.OK {
		t.Fatal(e)
	}
	r.id = api.MaxID - 1
	r.Hear(target, api.Reply{Session: 1, ID: api.MaxID - 1})
	if q, _, ok := r.Next(); !ok || q.ID != api.MaxID || q.Verb != api.VerbToken {
		t.Error(q, ok)
	}
	r.Hear(target, api.Reply{Session: 1, ID: api.MaxID})
	if s, _, e := r.State(); s != api.JobFailed || e != api.ErrReplica {
		t.Error(s, e)
	}
	if _, _, ok := r.Next(); ok {
		t.Error("it goes on")
	}
}
