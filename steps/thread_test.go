package steps

import (
	"slices"
	"testing"

	"readmost/api"
	"readmost/state"
)

var (
	goesOn  = api.Result{}
	nothing = api.Result{Done: true}
)

func found(value int) api.Result { return api.Result{Done: true, Found: true, Value: value} }

func entryWith(stands, value int) *state.Entry {
	e := &state.Entry{}
	e.Set(state.Content{State: stands, Value: value})
	return e
}

func sharing(read state.Table, amended bool, dirty state.Table) *state.Shared {
	s := state.New()
	s.Read.Set(state.Read{Table: read, Amended: amended})
	s.Dirty.Set(state.Dirty{Table: dirty, There: dirty != state.Table{}})
	return s
}

func loading(s *state.Shared, number, key int) *Thread {
	th := New(number, s)
	th.Begin(api.Op{Kind: api.Load, Key: key})
	return th
}

func storing(s *state.Shared, number, key, value int) *Thread {
	th := New(number, s)
	th.Begin(api.Op{Kind: api.Store, Key: key, Value: value})
	return th
}

func deleting(s *state.Shared, number, key int) *Thread {
	th := New(number, s)
	th.Begin(api.Op{Kind: api.Delete, Key: key})
	return th
}

func replacing(s *state.Shared, number, key, old, value int) *Thread {
	th := New(number, s)
	th.Begin(api.Op{Kind: api.Replace, Key: key, Old: old, Value: value})
	return th
}

func wantStep(t *testing.T, th *Thread, what string, want api.Result) {
	t.Helper()
	promise := [...]string{"P5", "P6", "P7", "P8"}[th.op.Kind]
	got, errno := th.Step()
	if got != want || errno != api.OK {
		t.Errorf("%s: %s = %+v, %d; want %+v, 0", promise, what, got, errno, want)
	}
	if th.Busy() == want.Done {
		t.Errorf("%s: %s: busy is %t", promise, what, th.Busy())
	}
}

// sameView takes a list of nothing for one, nil or not.
func sameView(a, b api.View) bool {
	return slices.Equal(a.Read, b.Read) && a.Amended == b.Amended && a.HasDirty == b.HasDirty && slices.Equal(a.Dirty, b.Dirty) && a.Misses == b.Misses && a.Holder == b.Holder
}

func wantView(t *testing.T, s *state.Shared, what string, want api.View) {
	t.Helper()
	if got := s.View(); !sameView(got, want) {
		t.Errorf("P9: behind %s the view is %+v; want %+v", what, got, want)
	}
}

// wantSteps lets a thread do steps at none of which it is done.
func wantSteps(t *testing.T, th *Thread, steps ...string) {
	t.Helper()
	for _, step := range steps {
		wantStep(t, th, step, goesOn)
	}
}

// finish lets a thread that nobody blocks come to its end, and tells what that was.
func finish(t *testing.T, th *Thread) api.Result {
	t.Helper()
	for range 30 {
		if r, _ := th.Step(); r.Done {
			return r
		}
	}
	t.Fatal("P12: a thread alone is not done within 30 steps")
	return nothing
}

func wantBlocked(t *testing.T, s *state.Shared, th *Thread) {
	t.Helper()
	for range 3 {
		before := s.View()
		if r, errno := th.Step(); r != (api.Result{}) || errno != api.ErrBlocked || !th.Busy() {
			t.Errorf("P5: a step while another holds the lock = %+v, %d, busy %t", r, errno, th.Busy())
		}
		wantView(t, s, "a step that is blocked", before)
	}
}

// seen is what stands behind a step, and what the step told.
type seen struct {
	step   string
	result api.Result
	view   api.View
}

func wantWalk(t *testing.T, s *state.Shared, th *Thread, walk ...seen) {
	t.Helper()
	for _, at := range walk {
		wantStep(t, th, at.step, at.result)
		wantView(t, s, at.step, at.view)
	}
}

func value(key, value int) api.Entry { return api.Entry{Key: key, State: api.Value, Value: value} }

func empty(key int) api.Entry { return api.Entry{Key: key, State: api.Empty} }

func gone(key int) api.Entry { return api.Entry{Key: key, State: api.Gone} }

func TestStepOfAThreadAtNothing(t *testing.T) {
	th := New(0, state.New())
	if r, errno := th.Step(); r != (api.Result{}) || errno != api.ErrIdle || th.Busy() {
		t.Errorf("P5: Step of a thread at nothing = %+v, %d", r, errno)
	}
}
