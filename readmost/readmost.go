// Package readmost: a map that is mostly read, step by step: see DOC.md.
package readmost

import (
	"sync"

	"readmost/api"
	"readmost/state"
	"readmost/steps"
)

// Map is a map, and its threads.
type Map struct {
	call    sync.Mutex    // held while a call is at work, so that each step is one moment whoever calls
	closed  chan struct{} // closed with the map; nothing is ever sent
	shared  *state.Shared
	threads []*steps.Thread
}

// New makes an empty map with threads (P3).
func New(threads int) (*Map, api.Errno) {
	if threads < 1 || threads > api.MaxThreads {
		return nil, api.ErrArg
	}
	m := &Map{closed: make(chan struct{}), shared: state.New()}
	for number := range threads {
		m.threads = append(m.threads, steps.New(number, m.shared))
	}
	return m, api.OK
}

// Begin tells a thread what to do (P4).
func (m *Map) Begin(thread int, op api.Op) api.Errno {
	m.call.Lock()
	defer m.call.Unlock()
	if m.isClosed() {
		return api.ErrClosed
	}
	if !m.hasThread(thread) || !mayBe(op) {
		return api.ErrArg
	}
	if m.threads[thread].Busy() {
		return api.ErrBusy
	}
	m.threads[thread].Begin(op)
	return api.OK
}

// Step lets a thread do one step (P5 to P8).
func (m *Map) Step(thread int) (api.Result, api.Errno) {
	m.call.Lock()
	defer m.call.Unlock()
	if m.isClosed() {
		return api.Result{}, api.ErrClosed
	}
	if !m.hasThread(thread) {
		return api.Result{}, api.ErrArg
	}
	return m.threads[thread].Step()
}

// Look tells what stands where (P9).
func (m *Map) Look() api.View {
	m.call.Lock()
	defer m.call.Unlock()
	return m.shared.View()
}

// Close closes the map (P10).
func (m *Map) Close() {
	m.call.Lock()
	defer m.call.Unlock()
	if !m.isClosed() {
		close(m.closed)
	}
}

func (m *Map) isClosed() bool {
	select {
	case <-m.closed:
		return true
	default:
		return false
	}
}

func (m *Map) hasThread(thread int) bool { return 0 <= thread && thread < len(m.threads) }
