package readmost

import (
	"reflect"
	"sync"
	"testing"

	"readmost/api"
	"readmost/state"
)

var farOutside = []int{-1, -2, 1 << 31, -1 << 31, 1 << 32, 1 << 62, -1 << 62, 1<<63 - 1, -1 << 63}

func newMap(t *testing.T, threads int) *Map {
	t.Helper()
	m, errno := New(threads)
	if m == nil || errno != api.OK {
		t.Fatalf("P3: New(%d) = %v, %d", threads, m, errno)
	}
	return m
}

func wantBegin(t *testing.T, m *Map, thread int, op api.Op, want api.Errno) {
	t.Helper()
	if got := m.Begin(thread, op); got != want {
		t.Errorf("P4: Begin(%d, %+v) = %d; want %d", thread, op, got, want)
	}
}

func wantStep(t *testing.T, m *Map, thread int, result api.Result, errno api.Errno) {
	t.Helper()
	if r, e := m.Step(thread); r != result || e != errno {
		t.Errorf("P5: Step(%d) = %+v, %d; want %+v, %d", thread, r, e, result, errno)
	}
}

func wantBeginning(t *testing.T, m *Map) {
	t.Helper()
	v := m.Look()
	if len(v.Read) != 0 || v.Amended || v.HasDirty || len(v.Dirty) != 0 || v.Misses != 0 || v.Holder != -1 {
		t.Errorf("P9: Look at a map without keys = %+v", v)
	}
}

// fill lets a map have keys before there is a step that stores them: READ has 0, DIRTY 0 and 7.
func fill(m *Map) {
	least, greatest := &state.Entry{}, &state.Entry{}
	least.Set(state.Content{State: api.Value, Value: 1})
	greatest.Set(state.Content{State: api.Value, Value: 1000})
	m.shared.Read.Set(state.Read{Table: state.Table{0: least}, Amended: true})
	m.shared.Dirty.Set(state.Dirty{Table: state.Table{0: least, 7: greatest}, There: true})
}

func filledView(misses, holder int) api.View {
	least, greatest := api.Entry{Key: 0, Value: 1}, api.Entry{Key: 7, Value: 1000}
	return api.View{Read: []api.Entry{least}, Amended: true, HasDirty: true, Dirty: []api.Entry{least, greatest}, Misses: misses, Holder: holder}
}

func wantView(t *testing.T, m *Map, want api.View) {
	t.Helper()
	if got := m.Look(); !reflect.DeepEqual(got, want) {
		t.Errorf("P9: Look = %+v; want %+v", got, want)
	}
}

func TestP3NewRefuses(t *testing.T) {
	for _, n := range append([]int{0, 7, 8, 100}, farOutside...) {
		if m, errno := New(n); m != nil || errno != api.ErrArg {
			t.Errorf("P3: New(%d) = %v, %d", n, m, errno)
		}
	}
}

func TestP3NewMakesAMapAtTheBeginning(t *testing.T) {
	for n := 1; n <= 6; n++ {
		m := newMap(t, n)
		wantBeginning(t, m)
		for thread := range n {
			wantStep(t, m, thread, api.Result{}, api.ErrIdle)
			wantBegin(t, m, thread, api.Op{}, api.OK)
		}
		wantStep(t, m, n, api.Result{}, api.ErrArg)
		wantBegin(t, m, n, api.Op{}, api.ErrArg)
	}
}

func TestP4BeginRefusesWhatMayNotBe(t *testing.T) {
	m := newMap(t, 1)
	for _, n := range append([]int{4, 8, 1001}, farOutside...) {
		wantBegin(t, m, n, api.Op{}, api.ErrArg)
		wantBegin(t, m, 0, api.Op{Kind: n, Value: 1, Old: 1}, api.ErrArg)
		if n < 0 || n > 7 {
			for kind := range 4 {
				wantBegin(t, m, 0, api.Op{Kind: kind, Key: n, Value: 1, Old: 1}, api.ErrArg)
			}
		}
	}
	for _, n := range append([]int{0, 1001}, farOutside...) {
		wantBegin(t, m, 0, api.Op{Kind: api.Store, Value: n, Old: 1}, api.ErrArg)
		wantBegin(t, m, 0, api.Op{Kind: api.Replace, Value: n, Old: 1}, api.ErrArg)
		wantBegin(t, m, 0, api.Op{Kind: api.Replace, Value: 1, Old: n}, api.ErrArg)
	}
	wantStep(t, m, 0, api.Result{}, api.ErrIdle)
	wantBeginning(t, m)
}

func TestP4BeginTakesEveryOperation(t *testing.T) {
	for _, key := range []int{0, 1, 6, 7} {
		for _, op := range []api.Op{
			{Kind: api.Load}, {Kind: api.Load, Value: -1, Old: 1 << 62}, {Kind: api.Load, Value: 1001, Old: 0},
			{Kind: api.Delete}, {Kind: api.Delete, Value: -1 << 63, Old: 1001},
			{Kind: api.Store, Value: 1}, {Kind: api.Store, Value: 1000}, {Kind: api.Store, Value: 1, Old: -1}, {Kind: api.Store, Value: 500, Old: 1001},
			{Kind: api.Replace, Value: 1, Old: 1000}, {Kind: api.Replace, Value: 1000, Old: 1}, {Kind: api.Replace, Value: 7, Old: 7},
		} {
			op.Key = key
			m := newMap(t, 6)
			for _, thread := range []int{0, 5} {
				wantBegin(t, m, thread, op, api.OK)
				wantBegin(t, m, thread, op, api.ErrBusy)
			}
			wantBeginning(t, m)
		}
	}
}

func TestP4WhichErrorIsNamedFirst(t *testing.T) {
	m := newMap(t, 2)
	wantBegin(t, m, 0, api.Op{}, api.OK)
	wantBegin(t, m, 0, api.Op{}, api.ErrBusy)
	wantBegin(t, m, 0, api.Op{Kind: 4}, api.ErrArg)
	wantBegin(t, m, 0, api.Op{Key: 8}, api.ErrArg)
	wantBegin(t, m, 0, api.Op{Kind: api.Store}, api.ErrArg)
	wantBegin(t, m, 0, api.Op{Kind: api.Replace, Value: 1}, api.ErrArg)
	m.Close()
	wantBegin(t, m, 0, api.Op{}, api.ErrClosed)
	wantBegin(t, m, 0, api.Op{Kind: 4}, api.ErrClosed)
	wantBegin(t, m, 1, api.Op{Key: 8}, api.ErrClosed)
	wantBegin(t, m, 2, api.Op{}, api.ErrClosed)
	wantBegin(t, m, 1, api.Op{}, api.ErrClosed)
}

// P1: the operation that a busy thread is at is not the one that was refused.
func TestP1AnErrorChangesNothing(t *testing.T) {
	m := newMap(t, 1)
	fill(m)
	wantBegin(t, m, 0, api.Op{Key: 0}, api.OK)
	wantStep(t, m, 0, api.Result{}, api.OK)
	wantBegin(t, m, 0, api.Op{Key: 7}, api.ErrBusy)
	wantBegin(t, m, 0, api.Op{Key: 8}, api.ErrArg)
	wantStep(t, m, 1, api.Result{}, api.ErrArg)
	wantView(t, m, filledView(0, -1))
	wantStep(t, m, 0, api.Result{Done: true, Found: true, Value: 1}, api.OK)
	wantStep(t, m, 0, api.Result{}, api.ErrIdle)
}

func TestP5StepRefuses(t *testing.T) {
	m := newMap(t, 6)
	wantBegin(t, m, 5, api.Op{}, api.OK)
	for _, n := range append([]int{6, 7, 100}, farOutside...) {
		wantStep(t, m, n, api.Result{}, api.ErrArg)
	}
	wantStep(t, m, 4, api.Result{}, api.ErrIdle)
	m.Close()
	for _, n := range append([]int{0, 5, 6}, farOutside...) {
		wantStep(t, m, n, api.Result{}, api.ErrClosed)
	}
}

func TestP5LoadFromAMapWithoutKeys(t *testing.T) {
	for _, threads := range []int{1, 6} {
		m := newMap(t, threads)
		for key := range api.Keys {
			for thread := range threads {
				wantBegin(t, m, thread, api.Op{Key: key}, api.OK)
			}
			for thread := range threads {
				wantStep(t, m, thread, api.Result{Done: true}, api.OK)
				wantStep(t, m, thread, api.Result{}, api.ErrIdle)
			}
		}
		wantBeginning(t, m)
	}
}

func TestP5LoadsThatWaitForTheLock(t *testing.T) {
	m := newMap(t, 6)
	fill(m)
	wantBegin(t, m, 0, api.Op{Key: 7}, api.OK)
	wantBegin(t, m, 5, api.Op{Key: 6}, api.OK)
	wantStep(t, m, 0, api.Result{}, api.OK) // 1
	wantStep(t, m, 5, api.Result{}, api.OK) // 1
	wantStep(t, m, 5, api.Result{}, api.OK) // 2
	for range 3 {
		wantStep(t, m, 0, api.Result{}, api.ErrBlocked)
		wantBegin(t, m, 0, api.Op{}, api.ErrBusy)
		wantView(t, m, filledView(0, 5))
	}
	for range 3 { // 3, 4, 5
		wantStep(t, m, 5, api.Result{}, api.OK)
	}
	wantView(t, m, filledView(1, 5))
	wantStep(t, m, 0, api.Result{}, api.ErrBlocked)
	wantStep(t, m, 5, api.Result{Done: true}, api.OK)
	wantStep(t, m, 0, api.Result{}, api.OK) // 2
	wantView(t, m, filledView(1, 0))
	m.Close()
	wantStep(t, m, 0, api.Result{}, api.ErrClosed)
	wantView(t, m, filledView(1, 0))
}

// For now: the other operations are taken, and their steps do nothing.
func TestStepsOfTheOthersDoNothing(t *testing.T) {
	for _, op := range []api.Op{{Kind: api.Store, Value: 1}, {Kind: api.Delete}, {Kind: api.Replace, Value: 1, Old: 2}} {
		m := newMap(t, 1)
		wantBegin(t, m, 0, op, api.OK)
		for range 40 {
			wantStep(t, m, 0, api.Result{}, api.OK)
		}
		wantBeginning(t, m)
	}
}

func TestP2MapsDoNotTouchOneAnother(t *testing.T) {
	one, other := newMap(t, 1), newMap(t, 1)
	fill(one)
	wantBegin(t, one, 0, api.Op{Key: 7}, api.OK)
	wantStep(t, other, 0, api.Result{}, api.ErrIdle)
	for range 2 {
		wantStep(t, one, 0, api.Result{}, api.OK)
	}
	one.Close()
	wantBeginning(t, other)
	wantBegin(t, other, 0, api.Op{Key: 7}, api.OK)
	wantStep(t, other, 0, api.Result{Done: true}, api.OK)
}

func TestP2AViewIsTheCallers(t *testing.T) {
	m := newMap(t, 1)
	fill(m)
	kept, spoilt := m.Look(), m.Look()
	for _, list := range [][]api.Entry{spoilt.Read, spoilt.Dirty} {
		list = list[:cap(list)]
		for i := range list {
			list[i] = api.Entry{Key: -1}
		}
	}
	if !reflect.DeepEqual(kept, filledView(0, -1)) {
		t.Errorf("P2: writing into a view changed another: %+v", kept)
	}
	wantView(t, m, filledView(0, -1))
}

func TestP10CloseAgainIsNothing(t *testing.T) {
	m := newMap(t, 1)
	fill(m)
	for range 3 {
		m.Close()
		wantBegin(t, m, 0, api.Op{}, api.ErrClosed)
		wantStep(t, m, 0, api.Result{}, api.ErrClosed)
		wantView(t, m, filledView(0, -1))
	}
}

// P1: a call leaves the map free for the next one, whoever calls.
func TestP1CallsFromManySides(t *testing.T) {
	m := newMap(t, 6)
	var group sync.WaitGroup
	for thread := range 6 {
		group.Go(func() {
			for range 100 {
				m.Begin(thread, api.Op{Key: thread})
				m.Look()
				m.Step(thread)
			}
			m.Close()
		})
	}
	group.Wait()
	wantBegin(t, m, 0, api.Op{}, api.ErrClosed)
	wantBeginning(t, m)
}
