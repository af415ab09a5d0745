package readmost

import (
	"sync"
	"testing"

	"readmost/api"
)

var farOutside = []int{-1, -2, 1 << 31, -1 << 31, 1 << 32, 1 << 62, -1 << 62, 1<<63 - 1, -1 << 63}

func newMap(t *testing.T, threads int) *Map {
	t.Helper()
	m, errno := New(threads)
	if m == nil || errno != api.OK {
		t.Fatalf("P3: New(%d) = %v, %d", threads, m, errno)
	}
	return m
}

func wantBegin(t *testing.T, m *Map, thread int, op api.Op, want api.Errno) {
	t.Helper()
	if got := m.Begin(thread, op); got != want {
		t.Errorf("P4: Begin(%d, %+v) = %d; want %d", thread, op, got, want)
	}
}

func wantStep(t *testing.T, m *Map, thread int, result api.Result, errno api.Errno) {
	t.Helper()
	if r, e := m.Step(thread); r != result || e != errno {
		t.Errorf("P5: Step(%d) = %+v, %d; want %+v, %d", thread, r, e, result, errno)
	}
}

func wantBeginning(t *testing.T, m *Map) {
	t.Helper()
	v := m.Look()
	if len(v.Read) != 0 || v.Amended || v.HasDirty || len(v.Dirty) != 0 || v.Misses != 0 || v.Holder != -1 {
		t.Errorf("P9: Look at a map without keys = %+v", v)
	}
}

// does lets a thread do an operation that is done with the last of so many steps.
func does(t *testing.T, m *Map, thread int, op api.Op, steps int, want api.Result) {
	t.Helper()
	wantBegin(t, m, thread, op, api.OK)
	goes(t, m, thread, steps-1)
	wantStep(t, m, thread, want, api.OK)
	wantStep(t, m, thread, api.Result{}, api.ErrIdle)
}

// goes lets a thread do so many steps at none of which it is done.
func goes(t *testing.T, m *Map, thread, steps int) {
	t.Helper()
	for range steps {
		wantStep(t, m, thread, api.Result{}, api.OK)
	}
}

var nothing = api.Result{Done: true}

func found(value int) api.Result { return api.Result{Done: true, Found: true, Value: value} }

// fill lets a new map have keys: READ has 0, DIRTY 0 and 7.
func fill(t *testing.T, m *Map) {
	t.Helper()
	does(t, m, 0, store(0, 1), 8, found(1))
	does(t, m, 0, load(0), 10, found(1))
	does(t, m, 0, store(7, 1000), 9, found(1000))
	wantView(t, m, filledView(0, -1))
}

func filledView(misses, holder int) api.View {
	least, greatest := api.Entry{Key: 0, Value: 1}, api.Entry{Key: 7, Value: 1000}
	return api.View{Read: []api.Entry{least}, Amended: true, HasDirty: true, Dirty: []api.Entry{least, greatest}, Misses: misses, Holder: holder}
}

func wantView(t *testing.T, m *Map, want api.View) {
	t.Helper()
	if got := m.Look(); !sameView(got, want) {
		t.Errorf("P9: Look = %+v; want %+v", got, want)
	}
}

func TestP3NewRefuses(t *testing.T) {
	for _, n := range append([]int{0, 7, 8, 100}, farOutside...) {
		if m, errno := New(n); m != nil || errno != api.ErrArg {
			t.Errorf("P3: New(%d) = %v, %d", n, m, errno)
		}
	}
}

func TestP3NewMakesAMapAtTheBeginning(t *testing.T) {
	for n := 1; n <= 6; n++ {
		m := newMap(t, n)
		wantBeginning(t, m)
		for thread := range n {
			wantStep(t, m, thread, api.Result{}, api.ErrIdle)
			wantBegin(t, m, thread, api.Op{}, api.OK)
		}
		wantStep(t, m, n, api.Result{}, api.ErrArg)
		wantBegin(t, m, n, api.Op{}, api.ErrArg)
	}
}

func TestP4BeginRefusesWhatMayNotBe(t *testing.T) {
	m := newMap(t, 1)
	for _, n := range append([]int{4, 8, 1001}, farOutside...) {
		wantBegin(t, m, n, api.Op{}, api.ErrArg)
		wantBegin(t, m, 0, api.Op{Kind: n, Value: 1, Old: 1}, api.ErrArg)
		if n < 0 || n > 7 {
			for kind := range 4 {
				wantBegin(t, m, 0, api.Op{Kind: kind, Key: n, Value: 1, Old: 1}, api.ErrArg)
			}
		}
	}
	for _, n := range append([]int{0, 1001}, farOutside...) {
		wantBegin(t, m, 0, api.Op{Kind: api.Store, Value: n, Old: 1}, api.ErrArg)
		wantBegin(t, m, 0, api.Op{Kind: api.Replace, Value: n, Old: 1}, api.ErrArg)
		wantBegin(t, m, 0, api.Op{Kind: api.Replace, Value: 1, Old: n}, api.ErrArg)
	}
	wantStep(t, m, 0, api.Result{}, api.ErrIdle)
	wantBeginning(t, m)
}

func TestP4BeginTakesEveryOperation(t *testing.T) {
	for _, key := range []int{0, 1, 6, 7} {
		for _, op := range []api.Op{
			{Kind: api.Load}, {Kind: api.Load, Value: -1, Old: 1 << 62}, {Kind: api.Load, Value: 1001, Old: 0},
			{Kind: api.Delete}, {Kind: api.Delete, Value: -1 << 63, Old: 1001},
			{Kind: api.Store, Value: 1}, {Kind: api.Store, Value: 1000}, {Kind: api.Store, Value: 1, Old: -1}, {Kind: api.Store, Value: 500, Old: 1001},
			{Kind: api.Replace, Value: 1, Old: 1000}, {Kind: api.Replace, Value: 1000, Old: 1}, {Kind: api.Replace, Value: 7, Old: 7},
		} {
			op.Key = key
			m := newMap(t, 6)
			for _, thread := range []int{0, 5} {
				wantBegin(t, m, thread, op, api.OK)
				wantBegin(t, m, thread, op, api.ErrBusy)
			}
			wantBeginning(t, m)
		}
	}
}

func TestP4WhichErrorIsNamedFirst(t *testing.T) {
	m := newMap(t, 2)
	wantBegin(t, m, 0, api.Op{}, api.OK)
	wantBegin(t, m, 0, api.Op{}, api.ErrBusy)
	wantBegin(t, m, 0, api.Op{Kind: 4}, api.ErrArg)
	wantBegin(t, m, 0, api.Op{Key: 8}, api.ErrArg)
	wantBegin(t, m, 0, api.Op{Kind: api.Store}, api.ErrArg)
	wantBegin(t, m, 0, api.Op{Kind: api.Replace, Value: 1}, api.ErrArg)
	m.Close()
	wantBegin(t, m, 0, api.Op{}, api.ErrClosed)
	wantBegin(t, m, 0, api.Op{Kind: 4}, api.ErrClosed)
	wantBegin(t, m, 1, api.Op{Key: 8}, api.ErrClosed)
	wantBegin(t, m, 2, api.Op{}, api.ErrClosed)
	wantBegin(t, m, 1, api.Op{}, api.ErrClosed)
}

// P1: the operation that a busy thread is at is not the one that was refused.
func TestP1AnErrorChangesNothing(t *testing.T) {
	m := newMap(t, 1)
	fill(t, m)
	wantBegin(t, m, 0, api.Op{Key: 0}, api.OK)
	wantStep(t, m, 0, api.Result{}, api.OK)
	wantBegin(t, m, 0, api.Op{Key: 7}, api.ErrBusy)
	wantBegin(t, m, 0, api.Op{Key: 8}, api.ErrArg)
	wantStep(t, m, 1, api.Result{}, api.ErrArg)
	wantView(t, m, filledView(0, -1))
	wantStep(t, m, 0, api.Result{Done: true, Found: true, Value: 1}, api.OK)
	wantStep(t, m, 0, api.Result{}, api.ErrIdle)
}

func TestP5StepRefuses(t *testing.T) {
	m := newMap(t, 6)
	wantBegin(t, m, 5, api.Op{}, api.OK)
	for _, n := range append([]int{6, 7, 100}, farOutside...) {
		wantStep(t, m, n, api.Result{}, api.ErrArg)
	}
	wantStep(t, m, 4, api.Result{}, api.ErrIdle)
	m.Close()
	for _, n := range append([]int{0, 5, 6}, farOutside...) {
		wantStep(t, m, n, api.Result{}, api.ErrClosed)
	}
}

func TestP5LoadFromAMapWithoutKeys(t *testing.T) {
	for _, threads := range []int{1, 6} {
		m := newMap(t, threads)
		for key := range api.Keys {
			for thread := range threads {
				wantBegin(t, m, thread, api.Op{Key: key}, api.OK)
			}
			for thread := range threads {
				wantStep(t, m, thread, nothing, api.OK)
				wantStep(t, m, thread, api.Result{}, api.ErrIdle)
			}
		}
		wantBeginning(t, m)
	}
}

func TestP5LoadsThatWaitForTheLock(t *testing.T) {
	m := newMap(t, 6)
	fill(t, m)
	wantBegin(t, m, 0, api.Op{Key: 7}, api.OK)
	wantBegin(t, m, 5, api.Op{Key: 6}, api.OK)
	wantStep(t, m, 0, api.Result{}, api.OK) // 1
	wantStep(t, m, 5, api.Result{}, api.OK) // 1
	wantStep(t, m, 5, api.Result{}, api.OK) // 2
	for range 3 {
		wantStep(t, m, 0, api.Result{}, api.ErrBlocked)
		wantBegin(t, m, 0, api.Op{}, api.ErrBusy)
		wantView(t, m, filledView(0, 5))
	}
	for range 3 { // 3, 4, 5
		wantStep(t, m, 5, api.Result{}, api.OK)
	}
	wantView(t, m, filledView(1, 5))
	wantStep(t, m, 0, api.Result{}, api.ErrBlocked)
	wantStep(t, m, 5, nothing, api.OK)
	wantStep(t, m, 0, api.Result{}, api.OK) // 2
	wantView(t, m, filledView(1, 0))
	m.Close()
	wantStep(t, m, 0, api.Result{}, api.ErrClosed)
	wantView(t, m, filledView(1, 0))
}

// The document's examples, with views of all that stands there.
func TestP5ToP8TheExamples(t *testing.T) {
	three, four := api.Entry{Key: 3, Value: 5}, api.Entry{Key: 4, Value: 6}
	m := newMap(t, 1)
	does(t, m, 0, store(3, 5), 8, found(5))
	wantView(t, m, api.View{Amended: true, HasDirty: true, Dirty: []api.Entry{three}, Holder: -1})
	does(t, m, 0, load(3), 10, found(5))
	wantView(t, m, api.View{Read: []api.Entry{three}, Holder: -1})
	does(t, m, 0, load(3), 2, found(5))
	does(t, m, 0, load(4), 1, nothing)
	does(t, m, 0, remove(3), 3, found(5))
	wantView(t, m, api.View{Read: []api.Entry{{Key: 3, State: api.Empty}}, Holder: -1})
	wantBegin(t, m, 0, store(4, 6), api.OK)
	goes(t, m, 0, 6)
	wantView(t, m, api.View{Read: []api.Entry{{Key: 3, State: api.Gone}}, HasDirty: true, Holder: 0})
	goes(t, m, 0, 2)
	wantStep(t, m, 0, found(6), api.OK)
	wantView(t, m, api.View{Read: []api.Entry{{Key: 3, State: api.Gone}}, Amended: true, HasDirty: true, Dirty: []api.Entry{four}, Holder: -1})
	three.Value = 7
	does(t, m, 0, store(3, 7), 8, found(7))
	wantView(t, m, api.View{Read: []api.Entry{three}, Amended: true, HasDirty: true, Dirty: []api.Entry{three, four}, Holder: -1})
}

// READ has the key without an empty entry between: it is stored into, and stands in a new DIRTY.
func TestP6StoresOverAndBeside(t *testing.T) {
	three, four := api.Entry{Key: 3, Value: 5}, api.Entry{Key: 4, Value: 6}
	m := newMap(t, 1)
	does(t, m, 0, store(3, 5), 8, found(5))
	does(t, m, 0, load(3), 10, found(5))
	does(t, m, 0, store(4, 6), 9, found(6))
	wantView(t, m, api.View{Read: []api.Entry{three}, Amended: true, HasDirty: true, Dirty: []api.Entry{three, four}, Holder: -1})
	three.Value = 7
	does(t, m, 0, store(3, 7), 3, found(7))
	wantView(t, m, api.View{Read: []api.Entry{three}, Amended: true, HasDirty: true, Dirty: []api.Entry{three, four}, Holder: -1})
}

// The example of two threads, and others that wait at the same lock.
func TestP5ToP8WhoWaitsForTheLock(t *testing.T) {
	m := newMap(t, 6)
	does(t, m, 0, store(3, 5), 8, found(5))
	for thread, op := range []api.Op{store(4, 6), store(5, 7), load(3), remove(3), replace(3, 5, 8), replace(7, 5, 8)} {
		wantBegin(t, m, thread, op, api.OK)
		goes(t, m, thread, 1)
	}
	goes(t, m, 0, 1)
	for range 4 {
		before := m.Look()
		for thread := 1; thread < 6; thread++ {
			wantStep(t, m, thread, api.Result{}, api.ErrBlocked)
			wantStep(t, m, thread, api.Result{}, api.ErrBlocked)
		}
		wantView(t, m, before)
		if before.Holder != 0 {
			t.Errorf("P9: the lock's holder = %d", before.Holder)
		}
		if r, errno := m.Step(0); errno != api.OK || r.Done && r != found(6) {
			t.Errorf("P6: Step = %+v, %d", r, errno)
		}
	}
	goes(t, m, 5, 3) // 2, 3, 4: there is no key 7
	wantStep(t, m, 5, nothing, api.OK)
	goes(t, m, 3, 10) // 2 to 8: DIRTY has the key 4 alone then, and takes READ's place
	wantStep(t, m, 3, found(5), api.OK)
	for _, thread := range []int{2, 4} { // 2, 3: READ is not amended any more
		goes(t, m, thread, 2)
		wantStep(t, m, thread, nothing, api.OK)
	}
	goes(t, m, 1, 7)
	wantStep(t, m, 1, found(7), api.OK)
	four, five := api.Entry{Key: 4, Value: 6}, api.Entry{Key: 5, Value: 7}
	wantView(t, m, api.View{Read: []api.Entry{four}, Amended: true, HasDirty: true, Dirty: []api.Entry{four, five}, Holder: -1})
}

func TestP6AllKeysAndTheEdgesOfValues(t *testing.T) {
	for _, value := range []int{1, 2, 999, 1000} {
		m := newMap(t, 6)
		for key := range api.Keys {
			steps := 6
			if key == 0 {
				steps = 8
			}
			does(t, m, key%6, store(key, value), steps, found(value))
		}
		for misses := 1; misses < api.Keys; misses++ {
			does(t, m, misses%6, load(misses), 7, found(value))
			if v := m.Look(); v.Misses != misses || len(v.Read) != 0 || len(v.Dirty) != api.Keys {
				t.Errorf("P5: behind miss %d the view is %+v", misses, v)
			}
		}
		does(t, m, 5, load(7), 10, found(value))
		if v := m.Look(); v.Misses != 0 || len(v.Read) != api.Keys || v.Amended || v.HasDirty {
			t.Errorf("P5: behind the last miss the view is %+v", v)
		}
		for key := range api.Keys {
			does(t, m, 0, load(key), 2, found(value))
			does(t, m, 0, store(key, 1001-value), 3, found(1001-value))
		}
	}
}

// P1: what is refused while Stores are on their way does not turn them aside.
func TestP6StoresThatWrongInputsComeBetween(t *testing.T) {
	m := newMap(t, 2)
	wantBegin(t, m, 0, store(7, 1000), api.OK)
	wantBegin(t, m, 1, store(0, 1), api.OK)
	goes(t, m, 1, 1)
	for n := range 7 {
		wantStep(t, m, 0, api.Result{}, api.OK)
		before := m.Look()
		for _, far := range farOutside {
			wantBegin(t, m, far, store(1, 1), api.ErrArg)
			wantBegin(t, m, 0, store(far, 1), api.ErrArg)
			wantBegin(t, m, 0, store(1, far), api.ErrArg)
			wantStep(t, m, far, api.Result{}, api.ErrArg)
		}
		wantBegin(t, m, 0, store(1, 1), api.ErrBusy)
		wantBegin(t, m, 0, load(1), api.ErrBusy)
		if n > 0 {
			wantStep(t, m, 1, api.Result{}, api.ErrBlocked)
		}
		wantView(t, m, before)
	}
	wantStep(t, m, 0, found(1000), api.OK)
	goes(t, m, 1, 4)
	wantStep(t, m, 1, found(1), api.OK)
	wantView(t, m, api.View{Amended: true, HasDirty: true, Dirty: []api.Entry{{Key: 0, Value: 1}, {Key: 7, Value: 1000}}, Holder: -1})
}

// A map that is closed in the midst of a Store stays as it stands.
func TestP10CloseInTheMidst(t *testing.T) {
	m := newMap(t, 2)
	wantBegin(t, m, 1, store(3, 5), api.OK)
	goes(t, m, 1, 6)
	m.Close()
	for range 3 {
		wantStep(t, m, 1, api.Result{}, api.ErrClosed)
		wantBegin(t, m, 0, store(3, 5), api.ErrClosed)
		wantView(t, m, api.View{Amended: true, HasDirty: true, Holder: 1})
	}
}

func TestP2StoresOfOneMapAreNotInAnother(t *testing.T) {
	one, other := newMap(t, 1), newMap(t, 1)
	wantBegin(t, one, 0, store(3, 5), api.OK)
	wantBegin(t, other, 0, store(4, 6), api.OK)
	for range 7 {
		goes(t, one, 0, 1)
		goes(t, other, 0, 1)
	}
	wantStep(t, one, 0, found(5), api.OK)
	wantStep(t, other, 0, found(6), api.OK)
	wantView(t, one, api.View{Amended: true, HasDirty: true, Dirty: []api.Entry{{Key: 3, Value: 5}}, Holder: -1})
	wantView(t, other, api.View{Amended: true, HasDirty: true, Dirty: []api.Entry{{Key: 4, Value: 6}}, Holder: -1})
}

func TestP2MapsDoNotTouchOneAnother(t *testing.T) {
	one, other := newMap(t, 1), newMap(t, 1)
	fill(t, one)
	wantBegin(t, one, 0, api.Op{Key: 7}, api.OK)
	wantStep(t, other, 0, api.Result{}, api.ErrIdle)
	for range 2 {
		wantStep(t, one, 0, api.Result{}, api.OK)
	}
	one.Close()
	wantBeginning(t, other)
	wantBegin(t, other, 0, api.Op{Key: 7}, api.OK)
	wantStep(t, other, 0, nothing, api.OK)
}

func TestP2AViewIsTheCallers(t *testing.T) {
	m := newMap(t, 1)
	fill(t, m)
	kept, spoilt := m.Look(), m.Look()
	for _, list := range [][]api.Entry{spoilt.Read, spoilt.Dirty} {
		list = list[:cap(list)]
		for i := range list {
			list[i] = api.Entry{Key: -1}
		}
	}
	if !sameView(kept, filledView(0, -1)) {
		t.Errorf("P2: writing into a view changed another: %+v", kept)
	}
	wantView(t, m, filledView(0, -1))
}

func TestP10CloseAgainIsNothing(t *testing.T) {
	m := newMap(t, 1)
	fill(t, m)
	for range 3 {
		m.Close()
		wantBegin(t, m, 0, api.Op{}, api.ErrClosed)
		wantStep(t, m, 0, api.Result{}, api.ErrClosed)
		wantView(t, m, filledView(0, -1))
	}
}

// P1: a call leaves the map free for the next one, whoever calls.
func TestP1CallsFromManySides(t *testing.T) {
	m := newMap(t, 6)
	var group sync.WaitGroup
	for thread := range 6 {
		group.Go(func() {
			for n := range 400 {
				m.Begin(thread, []api.Op{store(thread, 1+thread), load(thread), replace(thread, 1+thread, 1+thread), remove(7)}[n/8%4])
				m.Look()
				m.Step(thread)
			}
			m.Close()
		})
	}
	group.Wait()
	wantBegin(t, m, 0, api.Op{}, api.ErrClosed)
	v := m.Look()
	for _, e := range append(v.Read, v.Dirty...) {
		if e.Value != 1+e.Key {
			t.Errorf("P1: key %d has %d", e.Key, e.Value)
		}
	}
}
