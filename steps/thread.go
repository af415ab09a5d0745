// Package steps: the threads of a map, and the steps of what they do.
package steps

import (
	"readmost/api"
	"readmost/state"
)

// step does one step of an operation, or answers api.ErrBlocked and does nothing.
type step func() (api.Result, api.Errno)

// Thread is at an operation, or at nothing.
type Thread struct {
	number int
	shared *state.Shared
	op     api.Op
	entry  *state.Entry // the entry that the operation has found so far, or nil
	next   step         // nil: the thread is at nothing
}

// New makes a thread that is at nothing.
func New(number int, shared *state.Shared) *Thread {
	return &Thread{number: number, shared: shared}
}

// Busy tells whether the thread is at an operation.
func (t *Thread) Busy() bool { return t.next != nil }

// Begin puts a thread that is at nothing at the first step of op.
func (t *Thread) Begin(op api.Op) {
	t.op = op
	t.next = t.firstOf(op.Kind)
}

// Step does the step that comes next.
func (t *Thread) Step() (api.Result, api.Errno) {
	if !t.Busy() {
		return api.Result{}, api.ErrIdle
	}
	return t.next()
}

func (t *Thread) firstOf(kind int) step {
	if kind == api.Load {
		return t.loadLooksAtRead
	}
	return t.stands
}

// stands is the only step of operations whose own steps are not built yet.
func (t *Thread) stands() (api.Result, api.Errno) { return t.goOn(t.stands) }

func (t *Thread) goOn(next step) (api.Result, api.Errno) {
	t.next = next
	return api.Result{}, api.OK
}

func (t *Thread) doneWithNothing() (api.Result, api.Errno) {
	return t.done(api.Result{Done: true})
}

func (t *Thread) doneWith(value int) (api.Result, api.Errno) {
	return t.done(api.Result{Done: true, Found: true, Value: value})
}

// done forgets the operation, so that nothing of it reaches into the thread's next one.
func (t *Thread) done(result api.Result) (api.Result, api.Errno) {
	t.op, t.entry, t.next = api.Op{}, nil, nil
	return result, api.OK
}
