package steps

import (
	"testing"

	"readmost/api"
	"readmost/state"
)

// The document's example, at the edges of keys and values too.
func TestP6StoreIntoNothing(t *testing.T) {
	for _, at := range []api.Entry{value(3, 5), value(0, 1), value(7, 1000)} {
		s := state.New()
		before, held, made := api.View{Holder: -1}, api.View{Holder: 4}, api.View{HasDirty: true, Holder: 4}
		amended := api.View{Amended: true, HasDirty: true, Holder: 4}
		stored := api.View{Amended: true, HasDirty: true, Dirty: []api.Entry{at}, Holder: 4}
		wantWalk(t, s, storing(s, 4, at.Key, at.Value),
			seen{"1", goesOn, before},
			seen{"4", goesOn, held},
			seen{"5", goesOn, held},
			seen{"8", goesOn, held},
			seen{"9", goesOn, made},
			seen{"11", goesOn, amended},
			seen{"12", goesOn, stored},
			seen{"14", found(at.Value), api.View{Amended: true, HasDirty: true, Dirty: []api.Entry{at}, Holder: -1}},
		)
	}
}

// 3 leaves the lock alone; what READ and DIRTY both have is one entry.
func TestP6StoreOverWhatReadHas(t *testing.T) {
	for _, before := range []*state.Entry{entryWith(api.Value, 5), entryWith(api.Value, 8), entryWith(api.Empty, 0)} {
		s := sharing(state.Table{3: before, 4: entryWith(api.Value, 6)}, true, state.Table{3: before})
		s.Lock.Set(1)
		th := storing(s, 0, 3, 8)
		unchanged := s.View()
		wantWalk(t, s, th,
			seen{"1", goesOn, unchanged},
			seen{"2", goesOn, unchanged},
			seen{"3", found(8), api.View{Read: []api.Entry{value(3, 8), value(4, 6)}, Amended: true, HasDirty: true, Dirty: []api.Entry{value(3, 8)}, Holder: 1}},
		)
	}
}

func TestP6StoreThatFindsTheEntryChanged(t *testing.T) {
	e := entryWith(api.Value, 5)
	s := sharing(state.Table{3: e}, false, state.Table{})
	th := storing(s, 0, 3, 8)
	wantSteps(t, th, "1")
	for _, changed := range []state.Content{{State: api.Value, Value: 6}, {State: api.Empty}, {State: api.Value, Value: 5}} {
		wantSteps(t, th, "2")
		e.Set(changed)
		unchanged := s.View()
		wantSteps(t, th, "3, in vain")
		wantView(t, s, "3, in vain", unchanged)
	}
	wantSteps(t, th, "2")
	wantStep(t, th, "3", found(8))
	wantView(t, s, "3", api.View{Read: []api.Entry{value(3, 8)}, Holder: -1})
}

// Only how the entry stands at 3 counts, not what it was between.
func TestP6StoreThatFindsTheEntryAsItWasSeen(t *testing.T) {
	for _, stood := range []state.Content{{State: api.Value, Value: 5}, {State: api.Empty}} {
		e := &state.Entry{}
		e.Set(stood)
		th := storing(sharing(state.Table{3: e}, false, state.Table{}), 0, 3, 8)
		wantSteps(t, th, "1", "2")
		e.Set(state.Content{State: api.Value, Value: 6})
		e.Set(stood)
		wantStep(t, th, "3", found(8))
	}
}

// An entry that is gone between 2 and 3 is not stored into.
func TestP6StoreThatFindsTheEntryGone(t *testing.T) {
	e := entryWith(api.Empty, 0)
	s := sharing(state.Table{3: e}, false, state.Table{})
	late, copying := storing(s, 0, 3, 8), storing(s, 1, 4, 6)
	wantSteps(t, late, "1", "2")
	wantSteps(t, copying, "1", "4", "5", "8", "9", "10", "11", "12")
	wantSteps(t, late, "3, in vain", "2")
	wantBlocked(t, s, late)
	wantStep(t, copying, "14", found(6))
	wantView(t, s, "14", api.View{Read: []api.Entry{gone(3)}, Amended: true, HasDirty: true, Dirty: []api.Entry{value(4, 6)}, Holder: -1})
	wantSteps(t, late, "4", "5", "6", "7", "13")
	wantStep(t, late, "14", found(8))
}

// The document's example: a gone entry comes back, into both tables.
func TestP6StoreBringsAGoneEntryBack(t *testing.T) {
	s := sharing(state.Table{3: entryWith(api.Gone, 0)}, true, state.Table{4: entryWith(api.Value, 6)})
	before := s.View()
	view := func(read api.Entry, holder int, dirty ...api.Entry) api.View {
		return api.View{Read: []api.Entry{read}, Amended: true, HasDirty: true, Dirty: dirty, Holder: holder}
	}
	wantWalk(t, s, storing(s, 0, 3, 7),
		seen{"1", goesOn, before},
		seen{"2", goesOn, before},
		seen{"4", goesOn, view(gone(3), 0, value(4, 6))},
		seen{"5", goesOn, view(gone(3), 0, value(4, 6))},
		seen{"6", goesOn, view(empty(3), 0, value(4, 6))},
		seen{"7", goesOn, view(empty(3), 0, empty(3), value(4, 6))},
		seen{"13", goesOn, view(value(3, 7), 0, value(3, 7), value(4, 6))},
		seen{"14", found(7), view(value(3, 7), -1, value(3, 7), value(4, 6))},
	)
	if s.Read.Look().Table[3] != s.Dirty.Look().Table[3] {
		t.Error("P6: the entry that came back is not one in both tables")
	}
}

// Between 6 and 13 others may store without the lock: the one that is at 13 stores over that.
func TestP6StoreIntoAnEntryThatComesBack(t *testing.T) {
	s := sharing(state.Table{3: entryWith(api.Gone, 0)}, true, state.Table{4: entryWith(api.Value, 6)})
	one, other := storing(s, 0, 3, 7), storing(s, 1, 3, 9)
	wantSteps(t, one, "1", "2", "4", "5", "6")
	wantSteps(t, other, "1", "2")
	wantStep(t, other, "3", found(9))
	wantSteps(t, one, "7", "13")
	wantStep(t, one, "14", found(7))
	wantView(t, s, "14", api.View{Read: []api.Entry{value(3, 7)}, Amended: true, HasDirty: true, Dirty: []api.Entry{value(3, 7), value(4, 6)}, Holder: -1})
}

// 10 is a step for each key of READ, by rising keys: the edges 0 and 7, one empty, and one gone (which stays so).
func TestP6StoreCopiesRead(t *testing.T) {
	s := sharing(state.Table{0: entryWith(api.Value, 1), 2: entryWith(api.Empty, 0), 4: entryWith(api.Gone, 0), 7: entryWith(api.Value, 1000)}, false, state.Table{})
	read := func(two api.Entry) []api.Entry { return []api.Entry{value(0, 1), two, gone(4), value(7, 1000)} }
	copying := func(two api.Entry, dirty ...api.Entry) api.View {
		return api.View{Read: read(two), HasDirty: true, Dirty: dirty, Holder: 0}
	}
	th := storing(s, 0, 5, 6)
	wantSteps(t, th, "1", "4", "5")
	wantWalk(t, s, th,
		seen{"8", goesOn, api.View{Read: read(empty(2)), Holder: 0}},
		seen{"9", goesOn, copying(empty(2))},
		seen{"10 of 0", goesOn, copying(empty(2), value(0, 1))},
		seen{"10 of 2", goesOn, copying(gone(2), value(0, 1))},
		seen{"10 of 4", goesOn, copying(gone(2), value(0, 1))},
		seen{"10 of 7", goesOn, copying(gone(2), value(0, 1), value(7, 1000))},
		seen{"11", goesOn, api.View{Read: read(gone(2)), Amended: true, HasDirty: true, Dirty: []api.Entry{value(0, 1), value(7, 1000)}, Holder: 0}},
		seen{"12", goesOn, api.View{Read: read(gone(2)), Amended: true, HasDirty: true, Dirty: []api.Entry{value(0, 1), value(5, 6), value(7, 1000)}, Holder: 0}},
		seen{"14", found(6), api.View{Read: read(gone(2)), Amended: true, HasDirty: true, Dirty: []api.Entry{value(0, 1), value(5, 6), value(7, 1000)}, Holder: -1}},
	)
	for _, key := range []int{0, 7} {
		if s.Read.Look().Table[key] != s.Dirty.Look().Table[key] {
			t.Errorf("P6: the entry of %d is not one in both tables", key)
		}
	}
}

// The most keys that READ can have without the one that is stored.
func TestP6StoreCopiesSevenKeys(t *testing.T) {
	var read state.Table
	for key := 1; key < api.Keys; key++ {
		read[key] = entryWith(api.Value, key)
	}
	s := sharing(read, false, state.Table{})
	th := storing(s, 0, 0, 9)
	wantSteps(t, th, "1", "4", "5", "8", "9")
	for key := 1; key < api.Keys; key++ {
		wantSteps(t, th, "10")
		if n := len(s.View().Dirty); n != key {
			t.Errorf("P6: behind 10 of key %d DIRTY has %d keys", key, n)
		}
	}
	wantSteps(t, th, "11", "12")
	wantStep(t, th, "14", found(9))
}

// What others do to READ's entries while they are copied is seen at the copying of each.
func TestP6StoreCopiesWhatStandsThen(t *testing.T) {
	s := sharing(state.Table{1: entryWith(api.Empty, 0), 2: entryWith(api.Empty, 0)}, false, state.Table{})
	copying, one, two := storing(s, 0, 5, 6), storing(s, 1, 1, 7), storing(s, 2, 2, 8)
	wantSteps(t, copying, "1", "4", "5", "8", "9", "10 of 1")
	wantSteps(t, one, "1", "2")
	wantSteps(t, two, "1", "2")
	wantStep(t, two, "3", found(8))
	wantSteps(t, copying, "10 of 2", "11", "12")
	wantBlocked(t, s, one)
	wantStep(t, copying, "14", found(6))
	wantView(t, s, "14", api.View{Read: []api.Entry{gone(1), value(2, 8)}, Amended: true, HasDirty: true, Dirty: []api.Entry{value(2, 8), value(5, 6)}, Holder: -1})
}

func TestP6StoreOverWhatDirtyHas(t *testing.T) {
	e := entryWith(api.Value, 5)
	s := sharing(state.Table{}, true, state.Table{3: e})
	s.Misses.Set(1)
	th := storing(s, 0, 3, 8)
	wantSteps(t, th, "1", "4", "5")
	wantWalk(t, s, th,
		seen{"8", goesOn, api.View{Amended: true, HasDirty: true, Dirty: []api.Entry{value(3, 5)}, Misses: 1, Holder: 0}},
		seen{"13", goesOn, api.View{Amended: true, HasDirty: true, Dirty: []api.Entry{value(3, 8)}, Misses: 1, Holder: 0}},
		seen{"14", found(8), api.View{Amended: true, HasDirty: true, Dirty: []api.Entry{value(3, 8)}, Misses: 1, Holder: -1}},
	)
	if s.Dirty.Look().Table[3] != e {
		t.Error("P6: DIRTY has another entry than it had")
	}
}

func TestP6StoreBesideWhatDirtyHas(t *testing.T) {
	s := sharing(state.Table{1: entryWith(api.Empty, 0)}, true, state.Table{3: entryWith(api.Value, 5)})
	th := storing(s, 0, 4, 6)
	wantSteps(t, th, "1", "4", "5", "8", "12")
	wantStep(t, th, "14", found(6))
	wantView(t, s, "14", api.View{Read: []api.Entry{empty(1)}, Amended: true, HasDirty: true, Dirty: []api.Entry{value(3, 5), value(4, 6)}, Holder: -1})
}

// Between 1 and 5 another thread puts DIRTY in READ's place.
func TestP6StoreThatFindsReadChanged(t *testing.T) {
	for key, way := range map[int][]string{3: {"4", "5", "6", "13"}, 4: {"4", "5", "8", "9", "10", "11", "12"}} {
		s := sharing(state.Table{}, true, state.Table{3: entryWith(api.Value, 5)})
		late, first := storing(s, 0, key, 8), loading(s, 1, 3)
		wantSteps(t, late, "1")
		finish(t, first)
		wantSteps(t, late, way...)
		wantStep(t, late, "14", found(8))
	}
}

// A gone entry was dropped from READ between 2 and 5: the key gets a new one, and the old one stays gone.
func TestP6StoreThatFindsTheGoneEntryDropped(t *testing.T) {
	e := entryWith(api.Gone, 0)
	s := sharing(state.Table{3: e}, true, state.Table{4: entryWith(api.Value, 6)})
	late, miss := storing(s, 0, 3, 8), loading(s, 1, 7)
	wantSteps(t, late, "1", "2")
	finish(t, miss)
	wantSteps(t, late, "4", "5", "8", "9", "10", "11", "12")
	wantStep(t, late, "14", found(8))
	wantView(t, s, "14", api.View{Read: []api.Entry{value(4, 6)}, Amended: true, HasDirty: true, Dirty: []api.Entry{value(3, 8), value(4, 6)}, Holder: -1})
	if e.Look() != (state.Content{State: api.Gone}) {
		t.Errorf("P6: the entry that was dropped has changed: %v", e.Look())
	}
}

// The document's example; a Load at its 2 waits likewise.
func TestP6StoreBlocked(t *testing.T) {
	s := state.New()
	s.Read.Set(state.Read{Amended: true})
	s.Dirty.Set(state.Dirty{There: true})
	one, other, load := storing(s, 0, 3, 5), storing(s, 5, 4, 6), loading(s, 2, 3)
	for _, th := range []*Thread{one, other, load} {
		wantSteps(t, th, "1")
	}
	wantSteps(t, one, "4")
	for _, step := range []string{"5", "8", "12"} {
		wantBlocked(t, s, other)
		wantBlocked(t, s, load)
		wantSteps(t, one, step)
	}
	wantBlocked(t, s, other)
	wantStep(t, one, "14", found(5))
	wantSteps(t, other, "4")
	if holder := s.View().Holder; holder != 5 {
		t.Errorf("P9: the lock's holder = %d", holder)
	}
	wantBlocked(t, s, load)
}

// Nothing of an operation reaches into the next one of its thread.
func TestP6StoresOfOneThread(t *testing.T) {
	s := state.New()
	th := New(0, s)
	for n, key := range []int{7, 0, 7, 3} {
		th.Begin(api.Op{Kind: api.Store, Key: key, Value: n + 1})
		finish(t, th)
	}
	wantView(t, s, "four Stores", api.View{Amended: true, HasDirty: true, Dirty: []api.Entry{value(0, 2), value(3, 4), value(7, 3)}, Holder: -1})
}
