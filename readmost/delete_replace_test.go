package readmost

import (
	"testing"

	"readmost/api"
)

func TestP7P8InAMapWithoutKeys(t *testing.T) {
	for _, threads := range []int{1, 6} {
		m := newMap(t, threads)
		for key := range api.Keys {
			for thread := range threads {
				does(t, m, thread, remove(key), 1, nothing)
				does(t, m, thread, replace(key, 1, 1000), 1, nothing)
				does(t, m, thread, replace(key, 1000, 1), 1, nothing)
			}
		}
		wantBeginning(t, m)
	}
}

// storeAll lets a new map have all keys, in DIRTY, with one value.
func storeAll(t *testing.T, m *Map, value int) {
	t.Helper()
	does(t, m, 0, store(0, value), 8, found(value))
	for key := 1; key < api.Keys; key++ {
		does(t, m, 0, store(key, value), 6, found(value))
	}
}

// Each Delete is a miss, and DIRTY has one key less: the fourth finds as many misses as keys.
func TestP7AllKeysAndTheEdgesOfValues(t *testing.T) {
	for _, value := range []int{1, 1000} {
		m := newMap(t, 6)
		storeAll(t, m, value)
		for key := range 3 {
			does(t, m, key, remove(key), 9, found(value))
			if v := m.Look(); v.Misses != key+1 || len(v.Dirty) != 7-key || len(v.Read) != 0 {
				t.Errorf("P7: behind miss %d the view is %+v", key+1, v)
			}
		}
		does(t, m, 5, remove(3), 12, found(value))
		if v := m.Look(); v.Misses != 0 || v.HasDirty || v.Amended || len(v.Read) != 4 || v.Read[0].Key != 4 {
			t.Errorf("P7: behind the fourth miss the view is %+v", v)
		}
		for key := range 4 {
			does(t, m, 0, remove(key), 1, nothing)
			does(t, m, 0, remove(4+key), 3, found(value))
			does(t, m, 5, remove(4+key), 2, nothing)
			does(t, m, 5, load(4+key), 2, nothing)
		}
	}
}

// DIRTY keeps its keys, so that the eighth miss is the one that puts it in READ's place.
func TestP8AllKeysAndTheEdgesOfValues(t *testing.T) {
	for _, value := range []int{1, 1000} {
		other := 1001 - value
		m := newMap(t, 6)
		storeAll(t, m, value)
		for key := range 7 {
			does(t, m, key%6, replace(key, value, other), 8, found(value))
			if v := m.Look(); v.Misses != key+1 || len(v.Dirty) != api.Keys || v.Dirty[key].Value != other || len(v.Read) != 0 {
				t.Errorf("P8: behind miss %d the view is %+v", key+1, v)
			}
		}
		does(t, m, 5, replace(7, value, other), 11, found(value))
		if v := m.Look(); v.Misses != 0 || v.HasDirty || v.Amended || len(v.Read) != api.Keys || v.Read[7].Value != other {
			t.Errorf("P8: behind the eighth miss the view is %+v", v)
		}
		for key := range api.Keys {
			does(t, m, 0, replace(key, value, 5), 2, nothing)
			does(t, m, 5, replace(key, other, value), 3, found(other))
			does(t, m, 0, replace(key, value, value), 3, found(value))
			does(t, m, 0, load(key), 2, found(value))
		}
	}
}

func TestP7P8WhatADeleteLeaves(t *testing.T) {
	m := newMap(t, 2)
	fill(t, m)
	does(t, m, 0, remove(0), 3, found(1))
	empty := api.Entry{Key: 0, State: api.Empty}
	wantView(t, m, api.View{Read: []api.Entry{empty}, Amended: true, HasDirty: true, Dirty: []api.Entry{empty, {Key: 7, Value: 1000}}, Holder: -1})
	does(t, m, 1, replace(0, 1, 5), 2, nothing)
	does(t, m, 1, replace(6, 1, 5), 5, nothing)
	does(t, m, 1, store(0, 5), 3, found(5))
	does(t, m, 1, remove(7), 12, found(1000))
	wantView(t, m, api.View{Read: []api.Entry{{Key: 0, Value: 5}}, Holder: -1})
	does(t, m, 1, replace(7, 1000, 5), 1, nothing)
}

// A Delete does not look at the numbers that it does not use.
func TestP7NumbersThatAreNotUsed(t *testing.T) {
	for _, n := range append([]int{0, 5, 1001}, farOutside...) {
		m := newMap(t, 1)
		does(t, m, 0, store(3, 5), 8, found(5))
		does(t, m, 0, api.Op{Kind: api.Delete, Key: 3, Value: n, Old: n}, 12, found(5))
		does(t, m, 0, api.Op{Kind: api.Load, Key: 3, Value: n, Old: n}, 1, nothing)
		wantBeginning(t, m)
	}
}

// P1: what is refused at each step of a Delete or a Replace does not turn it aside.
func TestP7P8WrongInputsComeBetween(t *testing.T) {
	for _, at := range []struct {
		op    api.Op
		steps int
	}{{remove(7), 12}, {replace(7, 1000, 1), 11}} {
		m := newMap(t, 1)
		does(t, m, 0, store(7, 1000), 8, found(1000))
		wantBegin(t, m, 0, at.op, api.OK)
		for range at.steps - 1 {
			refuseAll(t, m)
			goes(t, m, 0, 1)
		}
		refuseAll(t, m)
		wantStep(t, m, 0, found(1000), api.OK)
	}
}

// refuseAll asks a map of one thread, which is busy, for what it must refuse.
func refuseAll(t *testing.T, m *Map) {
	t.Helper()
	before := m.Look()
	for _, far := range append([]int{8, 1001}, farOutside...) {
		wantStep(t, m, far, api.Result{}, api.ErrArg)
		wantBegin(t, m, far, remove(1), api.ErrArg)
		wantBegin(t, m, 0, remove(far), api.ErrArg)
		wantBegin(t, m, 0, replace(far, 1, 1), api.ErrArg)
		wantBegin(t, m, 0, api.Op{Kind: far, Value: 1, Old: 1}, api.ErrArg)
	}
	for _, no := range append([]int{0, 1001}, farOutside...) {
		wantBegin(t, m, 0, replace(1, no, 1), api.ErrArg)
		wantBegin(t, m, 0, replace(1, 1, no), api.ErrArg)
	}
	wantBegin(t, m, 0, remove(1), api.ErrBusy)
	wantBegin(t, m, 0, replace(1, 1, 1), api.ErrBusy)
	wantView(t, m, before)
}

// A map that is closed in the midst of a Delete or a Replace stays as it stands.
func TestP7P8CloseInTheMidst(t *testing.T) {
	for _, at := range []struct {
		op    api.Op
		steps int
		want  api.View
	}{
		{remove(7), 5, api.View{Amended: true, HasDirty: true, Holder: 1}},
		{remove(7), 11, api.View{Holder: -1}},
		{replace(7, 1000, 1), 5, api.View{Amended: true, HasDirty: true, Dirty: []api.Entry{{Key: 7, Value: 1000}}, Misses: 1, Holder: 1}},
		{replace(7, 1000, 1), 10, api.View{Read: []api.Entry{{Key: 7, Value: 1000}}, Holder: -1}},
	} {
		m := newMap(t, 2)
		does(t, m, 0, store(7, 1000), 8, found(1000))
		wantBegin(t, m, 1, at.op, api.OK)
		goes(t, m, 1, at.steps)
		m.Close()
		for range 3 {
			wantStep(t, m, 1, api.Result{}, api.ErrClosed)
			wantBegin(t, m, 0, remove(7), api.ErrClosed)
			wantBegin(t, m, 0, replace(7, 1000, 1), api.ErrClosed)
			wantView(t, m, at.want)
		}
	}
}

func TestP2DeletesAndReplacesOfOneMapAreNotInAnother(t *testing.T) {
	one, other := newMap(t, 1), newMap(t, 1)
	fill(t, one)
	fill(t, other)
	wantBegin(t, one, 0, remove(0), api.OK)
	wantBegin(t, other, 0, replace(0, 1, 9), api.OK)
	for range 2 {
		goes(t, one, 0, 1)
		goes(t, other, 0, 1)
	}
	wantStep(t, one, 0, found(1), api.OK)
	wantView(t, other, filledView(0, -1))
	wantStep(t, other, 0, found(1), api.OK)
	does(t, other, 0, load(0), 2, found(9))
	does(t, one, 0, load(0), 2, nothing)
}
