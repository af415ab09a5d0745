package steps

import (
	"testing"

	"readmost/api"
	"readmost/state"
)

// 8 and 9 leave the lock alone; what READ and DIRTY both have is one entry.
func TestP8ReplaceWhatReadHas(t *testing.T) {
	for _, to := range []struct{ key, old, value int }{{3, 5, 6}, {0, 1, 1000}, {7, 1000, 1}, {4, 9, 9}} {
		e := entryWith(api.Value, to.old)
		var read, dirty state.Table
		read[to.key], dirty[to.key] = e, e
		s := sharing(read, true, dirty)
		s.Lock.Set(1)
		s.Misses.Set(2)
		before, replaced := s.View(), []api.Entry{value(to.key, to.value)}
		wantWalk(t, s, replacing(s, 0, to.key, to.old, to.value),
			seen{"1", goesOn, before},
			seen{"8", goesOn, before},
			seen{"9", found(to.old), api.View{Read: replaced, Amended: true, HasDirty: true, Dirty: replaced, Misses: 2, Holder: 1}},
		)
	}
}

// An entry without a value has none that could be Old; the value that would be put there is no Old either.
func TestP8ReplaceWhatIsNotOld(t *testing.T) {
	for _, e := range []*state.Entry{entryWith(api.Value, 6), entryWith(api.Value, 1), entryWith(api.Value, 1000), entryWith(api.Empty, 0), entryWith(api.Gone, 0)} {
		for _, amended := range []bool{false, true} {
			s := sharing(state.Table{3: e}, amended, state.Table{})
			before := s.View()
			th := replacing(s, 0, 3, 5, 6)
			wantSteps(t, th, "1")
			wantStep(t, th, "8", nothing)
			wantView(t, s, "8", before)
		}
	}
}

// Unlike a Delete it leaves DIRTY its key, and unlike a Load it is no miss where it finds no entry.
func TestP8ReplaceThatFindsNothingInDirty(t *testing.T) {
	s := sharing(state.Table{2: entryWith(api.Gone, 0)}, true, state.Table{3: entryWith(api.Value, 5)})
	for range 3 {
		before := s.View()
		held := s.View()
		held.Holder = 3
		wantWalk(t, s, replacing(s, 3, 6, 5, 8),
			seen{"1", goesOn, before},
			seen{"2", goesOn, held},
			seen{"3", goesOn, held},
			seen{"4", goesOn, held},
			seen{"7", nothing, before},
		)
	}
}

func TestP8ReplaceThatPutsDirtyInReadsPlace(t *testing.T) {
	for _, to := range []struct{ key, old, value int }{{3, 5, 6}, {0, 1, 1000}, {7, 1000, 1}} {
		var dirty state.Table
		dirty[to.key] = entryWith(api.Value, to.old)
		s := sharing(state.Table{}, true, dirty)
		list := []api.Entry{value(to.key, to.old)}
		held := api.View{Amended: true, HasDirty: true, Dirty: list, Holder: 2}
		wantWalk(t, s, replacing(s, 2, to.key, to.old, to.value),
			seen{"1", goesOn, api.View{Amended: true, HasDirty: true, Dirty: list, Holder: -1}},
			seen{"2", goesOn, held},
			seen{"3", goesOn, held},
			seen{"4", goesOn, held},
			seen{"6", goesOn, api.View{Amended: true, HasDirty: true, Dirty: list, Misses: 1, Holder: 2}},
			seen{"6a", goesOn, api.View{Read: list, HasDirty: true, Dirty: list, Misses: 1, Holder: 2}},
			seen{"6b", goesOn, api.View{Read: list, Misses: 1, Holder: 2}},
			seen{"6c", goesOn, api.View{Read: list, Holder: 2}},
			seen{"7", goesOn, api.View{Read: list, Holder: -1}},
			seen{"8", goesOn, api.View{Read: list, Holder: -1}},
			seen{"9", found(to.old), api.View{Read: []api.Entry{value(to.key, to.value)}, Holder: -1}},
		)
	}
}

// The entry is found, so it is a miss, whether its value is Old or not.
func TestP8ReplaceThatMisses(t *testing.T) {
	s := sharing(state.Table{}, true, state.Table{3: entryWith(api.Value, 5), 4: entryWith(api.Value, 6), 7: entryWith(api.Value, 7)})
	before := s.View()
	other := replacing(s, 0, 3, 6, 8)
	wantSteps(t, other, "1", "2", "3", "4", "6", "7")
	wantStep(t, other, "8", nothing)
	wantView(t, s, "8", api.View{Amended: true, HasDirty: true, Dirty: before.Dirty, Misses: 1, Holder: -1})
	old := replacing(s, 0, 3, 5, 8)
	wantSteps(t, old, "1", "2", "3", "4", "6", "7", "8")
	wantStep(t, old, "9", found(5))
	list := []api.Entry{value(3, 8), value(4, 6), value(7, 7)}
	wantView(t, s, "9", api.View{Amended: true, HasDirty: true, Dirty: list, Misses: 2, Holder: -1})
	last := replacing(s, 0, 7, 8, 9)
	wantSteps(t, last, "1", "2", "3", "4", "6", "6a", "6b", "6c", "7")
	wantStep(t, last, "8", nothing)
	wantView(t, s, "the third miss", api.View{Read: list, Holder: -1})
}

// What is not Old any more at 9 is looked at again: Old may be back by then.
func TestP8ReplaceThatFindsTheEntryChanged(t *testing.T) {
	for _, changed := range []state.Content{state.Having(6), state.Having(8), {State: api.Empty}, {State: api.Gone}} {
		e := entryWith(api.Value, 5)
		s := sharing(state.Table{3: e}, false, state.Table{})
		back, lost := replacing(s, 0, 3, 5, 8), replacing(s, 1, 3, 5, 8)
		wantSteps(t, back, "1", "8")
		wantSteps(t, lost, "1", "8")
		e.Set(changed)
		unchanged := s.View()
		wantSteps(t, lost, "9, in vain")
		wantStep(t, lost, "8", nothing)
		wantSteps(t, back, "9, in vain")
		wantView(t, s, "9, in vain", unchanged)
		e.Set(state.Having(5))
		wantSteps(t, back, "8")
		wantStep(t, back, "9", found(5))
		wantView(t, s, "9", api.View{Read: []api.Entry{value(3, 8)}, Holder: -1})
	}
}

// Only how the entry stands at 9 counts, not what it was between.
func TestP8ReplaceThatFindsTheEntryAsItWasSeen(t *testing.T) {
	for _, between := range []state.Content{state.Having(6), {State: api.Empty}, {State: api.Gone}} {
		e := entryWith(api.Value, 5)
		th := replacing(sharing(state.Table{3: e}, false, state.Table{}), 0, 3, 5, 8)
		wantSteps(t, th, "1", "8")
		e.Set(between)
		e.Set(state.Having(5))
		wantStep(t, th, "9", found(5))
		if got := e.Look(); got != state.Having(8) {
			t.Errorf("P8: behind 9 the entry is %v", got)
		}
	}
}

// Two that saw Old: only the first replaces it.
func TestP8TwoReplacesOfOneValue(t *testing.T) {
	s := sharing(state.Table{3: entryWith(api.Value, 5)}, false, state.Table{})
	one, other := replacing(s, 0, 3, 5, 8), replacing(s, 1, 3, 5, 9)
	wantSteps(t, one, "1", "8")
	wantSteps(t, other, "1", "8")
	wantStep(t, one, "9", found(5))
	wantSteps(t, other, "9, in vain")
	wantStep(t, other, "8", nothing)
	wantView(t, s, "8", api.View{Read: []api.Entry{value(3, 8)}, Holder: -1})
}

// The key that DIRTY has lost is none for a Replace that comes then; one that has its entry still finds nothing once that is empty.
func TestP8AKeyThatDirtyHasLost(t *testing.T) {
	s := sharing(state.Table{}, true, state.Table{3: entryWith(api.Value, 5), 4: entryWith(api.Value, 6), 5: entryWith(api.Value, 7), 7: entryWith(api.Value, 8)})
	early := replacing(s, 2, 3, 5, 8)
	wantSteps(t, early, "1", "2", "3", "4", "6", "7", "8")
	remove := deleting(s, 0, 3)
	wantSteps(t, remove, "1", "2", "3", "4", "5", "6", "7", "8")
	late := replacing(s, 1, 3, 5, 9)
	wantSteps(t, late, "1", "2", "3", "4")
	wantStep(t, late, "7", nothing)
	finish(t, storing(s, 1, 3, 5))
	wantStep(t, remove, "the Delete's 9", found(5))
	wantSteps(t, early, "9, in vain")
	wantStep(t, early, "8", nothing)
	if got := s.Dirty.Look().Table[3].Look(); got != state.Having(5) {
		t.Errorf("P8: the entry that was stored anew is %v", got)
	}
}

// Nothing of an operation reaches into the next one of its thread.
func TestP8OperationsOfOneThread(t *testing.T) {
	s := state.New()
	th := New(0, s)
	for _, at := range []struct {
		op   api.Op
		want api.Result
	}{
		{api.Op{Kind: api.Store, Key: 3, Value: 5}, found(5)},
		{api.Op{Kind: api.Replace, Key: 3, Old: 5, Value: 6}, found(5)},
		{api.Op{Kind: api.Replace, Key: 4, Old: 5, Value: 6}, nothing},
		{api.Op{Kind: api.Delete, Key: 4}, nothing},
		{api.Op{Kind: api.Delete, Key: 3}, found(6)},
		{api.Op{Kind: api.Replace, Key: 3, Old: 6, Value: 7}, nothing},
		{api.Op{Kind: api.Store, Key: 3, Value: 8}, found(8)},
		{api.Op{Kind: api.Delete, Key: 3}, found(8)},
		{api.Op{Kind: api.Load, Key: 3}, nothing},
	} {
		th.Begin(at.op)
		if got := finish(t, th); got != at.want {
			t.Errorf("P11: %+v = %+v; want %+v", at.op, got, at.want)
		}
	}
}
