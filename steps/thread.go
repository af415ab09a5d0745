// Package steps: the threads of a map, and the steps of what they do.
package steps

import (
	"readmost/api"
	"readmost/state"
)

// step does one step of an operation, or answers api.ErrBlocked and does nothing.
type step func() (api.Result, api.Errno)

// Thread is at an operation, or at nothing.
type Thread struct {
	number  int
	shared  *state.Shared
	op      api.Op
	entry   *state.Entry  // the entry that the operation has found so far, or nil
	seen    state.Content // how the entry stood when it was last looked at
	copying int           // the key of READ at which the copying into DIRTY stands
	next    step          // nil: the thread is at nothing
}

// New makes a thread that is at nothing.
func New(number int, shared *state.Shared) *Thread {
	return &Thread{number: number, shared: shared}
}

// Busy tells whether the thread is at an operation.
func (t *Thread) Busy() bool { return t.next != nil }

// Begin puts a thread that is at nothing at the first step of op.
func (t *Thread) Begin(op api.Op) {
	t.op = op
	t.next = t.firstOf(op.Kind)
}

// Step does the step that comes next.
func (t *Thread) Step() (api.Result, api.Errno) {
	if !t.Busy() {
		return api.Result{}, api.ErrIdle
	}
	return t.next()
}

func (t *Thread) firstOf(kind int) step {
	if kind == api.Store {
		return t.storeLooksAtRead
	}
	return t.findLooksAtRead
}

func (t *Thread) goOn(next step) (api.Result, api.Errno) {
	t.next = next
	return api.Result{}, api.OK
}

func (t *Thread) doneWithNothing() (api.Result, api.Errno) {
	return t.done(api.Result{Done: true})
}

func (t *Thread) doneWith(value int) (api.Result, api.Errno) {
	return t.done(api.Result{Done: true, Found: true, Value: value})
}

// done forgets the operation, so that nothing of it reaches into the thread's next one.
func (t *Thread) done(result api.Result) (api.Result, api.Errno) {
	*t = Thread{number: t.number, shared: t.shared}
	return result, api.OK
}

func (t *Thread) takeLock(next step) (api.Result, api.Errno) {
	if !t.shared.Lock.SetIf(state.Nobody, t.number) {
		return api.Result{}, api.ErrBlocked
	}
	return t.goOn(next)
}

func (t *Thread) freeLock() { t.shared.Lock.Set(state.Nobody) }
