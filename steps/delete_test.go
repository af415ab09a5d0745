package steps

import (
	"testing"

	"readmost/api"
	"readmost/state"
)

// 8 and 9 leave the lock alone; what READ and DIRTY both have is one entry.
func TestP7DeleteWhatReadHas(t *testing.T) {
	for _, at := range []api.Entry{value(3, 5), value(0, 1), value(7, 1000)} {
		e := entryWith(api.Value, at.Value)
		var read, dirty state.Table
		read[at.Key], dirty[at.Key] = e, e
		s := sharing(read, true, dirty)
		s.Lock.Set(1)
		s.Misses.Set(2)
		before, empties := s.View(), []api.Entry{empty(at.Key)}
		wantWalk(t, s, deleting(s, 0, at.Key),
			seen{"1", goesOn, before},
			seen{"8", goesOn, before},
			seen{"9", found(at.Value), api.View{Read: empties, Amended: true, HasDirty: true, Dirty: empties, Misses: 2, Holder: 1}},
		)
	}
}

func TestP7DeleteWhatHasNoValue(t *testing.T) {
	for _, e := range []*state.Entry{entryWith(api.Empty, 0), entryWith(api.Gone, 0)} {
		for _, amended := range []bool{false, true} {
			s := sharing(state.Table{3: e, 4: entryWith(api.Value, 6)}, amended, state.Table{})
			before := s.View()
			th := deleting(s, 0, 3)
			wantSteps(t, th, "1")
			wantStep(t, th, "8", nothing)
			wantView(t, s, "8", before)
		}
	}
}

// DIRTY has the one key: without it, it has less keys than there are misses, and takes READ's place.
func TestP7DeleteThatPutsDirtyInReadsPlace(t *testing.T) {
	for _, at := range []api.Entry{value(3, 5), value(0, 1), value(7, 1000)} {
		var dirty state.Table
		dirty[at.Key] = entryWith(api.Value, at.Value)
		s := sharing(state.Table{4: entryWith(api.Gone, 0)}, true, dirty)
		view := func(amended, hasDirty bool, misses, holder int, dirty ...api.Entry) api.View {
			return api.View{Read: []api.Entry{gone(4)}, Amended: amended, HasDirty: hasDirty, Dirty: dirty, Misses: misses, Holder: holder}
		}
		wantWalk(t, s, deleting(s, 5, at.Key),
			seen{"1", goesOn, view(true, true, 0, -1, at)},
			seen{"2", goesOn, view(true, true, 0, 5, at)},
			seen{"3", goesOn, view(true, true, 0, 5, at)},
			seen{"4", goesOn, view(true, true, 0, 5, at)},
			seen{"5", goesOn, view(true, true, 0, 5)},
			seen{"6", goesOn, view(true, true, 1, 5)},
			seen{"6a", goesOn, api.View{HasDirty: true, Misses: 1, Holder: 5}},
			seen{"6b", goesOn, api.View{Misses: 1, Holder: 5}},
			seen{"6c", goesOn, api.View{Holder: 5}},
			seen{"7", goesOn, api.View{Holder: -1}},
			seen{"8", goesOn, api.View{Holder: -1}},
			seen{"9", found(at.Value), api.View{Holder: -1}},
		)
	}
}

// A key that nobody has is a miss too; what counts is how many keys DIRTY has when it has lost its own.
func TestP7DeleteThatMisses(t *testing.T) {
	two := entryWith(api.Value, 9)
	s := sharing(state.Table{2: two}, true, state.Table{2: two, 3: entryWith(api.Value, 5), 4: entryWith(api.Value, 6), 7: entryWith(api.Value, 7)})
	read, left := []api.Entry{value(2, 9)}, []api.Entry{value(2, 9), value(4, 6), value(7, 7)}
	absent := deleting(s, 0, 6)
	before := s.View()
	wantSteps(t, absent, "1", "2", "3", "4", "5")
	wantView(t, s, "5", api.View{Read: read, Amended: true, HasDirty: true, Dirty: before.Dirty, Holder: 0})
	wantSteps(t, absent, "6")
	wantStep(t, absent, "7", nothing)
	wantView(t, s, "7", api.View{Read: read, Amended: true, HasDirty: true, Dirty: before.Dirty, Misses: 1, Holder: -1})
	there := deleting(s, 0, 3)
	wantSteps(t, there, "1", "2", "3", "4", "5", "6", "7", "8")
	wantStep(t, there, "9", found(5))
	wantView(t, s, "9", api.View{Read: read, Amended: true, HasDirty: true, Dirty: left, Misses: 2, Holder: -1})
	last := deleting(s, 0, 3)
	wantSteps(t, last, "1", "2", "3", "4", "5", "6", "6a", "6b", "6c")
	wantStep(t, last, "7", nothing)
	wantView(t, s, "the third miss", api.View{Read: left, Holder: -1})
}

// With the key that it loses, DIRTY would stay where it is for another miss.
func TestP7DeleteCountsTheKeysThatAreLeft(t *testing.T) {
	s := sharing(state.Table{}, true, state.Table{3: entryWith(api.Value, 5), 4: entryWith(api.Value, 6)})
	th := deleting(s, 0, 4)
	wantSteps(t, th, "1", "2", "3", "4", "5", "6", "6a", "6b", "6c", "7", "8")
	wantStep(t, th, "9", found(6))
	wantView(t, s, "9", api.View{Read: []api.Entry{value(3, 5)}, Holder: -1})
}

func TestP7DeleteThatFindsTheEntryChanged(t *testing.T) {
	e := entryWith(api.Value, 5)
	s := sharing(state.Table{3: e}, false, state.Table{})
	th := deleting(s, 0, 3)
	wantSteps(t, th, "1")
	for _, changed := range []int{6, 1000, 1} {
		wantSteps(t, th, "8")
		e.Set(state.Having(changed))
		wantSteps(t, th, "9, in vain")
		wantView(t, s, "9, in vain", api.View{Read: []api.Entry{value(3, changed)}, Holder: -1})
	}
	wantSteps(t, th, "8")
	wantStep(t, th, "9", found(1))
	wantView(t, s, "9", api.View{Read: []api.Entry{empty(3)}, Holder: -1})
}

// An entry that is empty or gone at 9 is looked at again, and nothing is found.
func TestP7DeleteThatFindsTheValueLost(t *testing.T) {
	for _, lost := range []int{api.Empty, api.Gone} {
		e := entryWith(api.Value, 5)
		s := sharing(state.Table{3: e}, false, state.Table{})
		th := deleting(s, 0, 3)
		wantSteps(t, th, "1", "8")
		e.Set(state.Content{State: lost})
		wantSteps(t, th, "9, in vain")
		wantStep(t, th, "8", nothing)
		wantView(t, s, "8", api.View{Read: []api.Entry{{Key: 3, State: lost}}, Holder: -1})
	}
}

// Only how the entry stands at 9 counts, not what it was between.
func TestP7DeleteThatFindsTheEntryAsItWasSeen(t *testing.T) {
	for _, between := range []state.Content{state.Having(6), {State: api.Empty}, {State: api.Gone}} {
		e := entryWith(api.Value, 5)
		th := deleting(sharing(state.Table{3: e}, false, state.Table{}), 0, 3)
		wantSteps(t, th, "1", "8")
		e.Set(between)
		e.Set(state.Having(5))
		wantStep(t, th, "9", found(5))
		if got := e.Look(); got != (state.Content{State: api.Empty}) {
			t.Errorf("P7: behind 9 the entry is %v", got)
		}
	}
}

// Two that saw one value: the first has it, the other finds nothing.
func TestP7TwoDeletesOfOneValue(t *testing.T) {
	s := sharing(state.Table{3: entryWith(api.Value, 5)}, false, state.Table{})
	one, other := deleting(s, 0, 3), deleting(s, 1, 3)
	wantSteps(t, one, "1", "8")
	wantSteps(t, other, "1", "8")
	wantStep(t, one, "9", found(5))
	wantSteps(t, other, "9, in vain")
	wantStep(t, other, "8", nothing)
}

// The key that DIRTY has lost is found by nobody, and stored anew with another entry, while the Delete is not done.
func TestP7AKeyThatDirtyHasLost(t *testing.T) {
	old := entryWith(api.Value, 5)
	s := sharing(state.Table{}, true, state.Table{3: old, 4: entryWith(api.Value, 6), 5: entryWith(api.Value, 7), 7: entryWith(api.Value, 8), 0: entryWith(api.Value, 9)})
	early := loading(s, 2, 3)
	wantSteps(t, early, "1", "2", "3", "4", "5", "6")
	th := deleting(s, 0, 3)
	wantSteps(t, th, "1", "2", "3", "4", "5", "6", "7")
	if got := old.Look(); got != state.Having(5) {
		t.Errorf("P7: ahead of 9 the entry is %v", got)
	}
	load := loading(s, 1, 3)
	wantSteps(t, load, "1", "2", "3", "4", "5")
	wantStep(t, load, "6", nothing)
	store := storing(s, 1, 3, 5)
	wantSteps(t, store, "1", "4", "5", "8", "12")
	wantStep(t, store, "14", found(5))
	wantSteps(t, th, "8")
	wantStep(t, early, "the early Load's 7", found(5))
	wantStep(t, th, "9", found(5))
	if got := s.Dirty.Look().Table[3]; got == old || got.Look() != state.Having(5) {
		t.Error("P7: the Delete reached into the entry that was stored behind its 5")
	}
}

// A Delete at whose entry others are, though DIRTY has lost it: it tells what stands there last.
func TestP7ALostEntryThatIsReplaced(t *testing.T) {
	s := sharing(state.Table{}, true, state.Table{3: entryWith(api.Value, 5), 4: entryWith(api.Value, 6)})
	replace := replacing(s, 1, 3, 5, 8)
	wantSteps(t, replace, "1", "2", "3", "4", "6", "7", "8")
	th := deleting(s, 0, 3)
	wantSteps(t, th, "1", "2", "3", "4", "5", "6", "6a", "6b", "6c", "7", "8")
	wantStep(t, replace, "the Replace's 9", found(5))
	wantSteps(t, th, "9, in vain", "8")
	wantStep(t, th, "9", found(8))
	wantView(t, s, "9", api.View{Read: []api.Entry{value(4, 6)}, Holder: -1})
}

// An empty entry becomes gone with a new DIRTY, and is dropped with the next: a Delete that has it finds nothing.
func TestP7DeleteOfAnEntryThatWasDropped(t *testing.T) {
	e := entryWith(api.Empty, 0)
	s := sharing(state.Table{3: e}, false, state.Table{})
	th := deleting(s, 0, 3)
	wantSteps(t, th, "1")
	finish(t, storing(s, 1, 4, 6))
	finish(t, loading(s, 1, 4))
	finish(t, storing(s, 1, 3, 7))
	wantStep(t, th, "8", nothing)
	if got := e.Look(); got != (state.Content{State: api.Gone}) {
		t.Errorf("P7: the entry that was dropped is %v", got)
	}
	wantView(t, s, "8", api.View{Read: []api.Entry{value(4, 6)}, Amended: true, HasDirty: true, Dirty: []api.Entry{value(3, 7), value(4, 6)}, Holder: -1})
}
