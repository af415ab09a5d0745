package steps

import (
	"testing"

	"readmost/api"
	"readmost/state"
)

func TestLoadWhatReadHas(t *testing.T) {
	read := state.Table{0: entryWith(api.Value, 1), 3: entryWith(api.Empty, 0), 5: entryWith(api.Gone, 0), 7: entryWith(api.Value, 1000)}
	for _, amended := range []bool{false, true} {
		for key, want := range map[int]api.Result{0: found(1), 3: nothing, 5: nothing, 7: found(1000)} {
			s := sharing(read, amended, state.Table{})
			th := loading(s, 0, key)
			before := s.View()
			wantStep(t, th, "1", goesOn)
			wantStep(t, th, "7", want)
			wantView(t, s, "7", api.View{Read: before.Read, Amended: amended, Holder: -1})
		}
	}
	wantStep(t, loading(sharing(read, false, state.Table{}), 0, 4), "1", nothing)
}

// The document's example: DIRTY has one key, so the first miss puts it in READ's place.
func TestLoadThatPutsDirtyInReadsPlace(t *testing.T) {
	s := sharing(state.Table{}, true, state.Table{3: entryWith(api.Value, 5)})
	list := []api.Entry{value(3, 5)}
	th := loading(s, 1, 3)
	wantWalk(t, s, th,
		seen{"1", goesOn, api.View{Amended: true, HasDirty: true, Dirty: list, Holder: -1}},
		seen{"2", goesOn, api.View{Amended: true, HasDirty: true, Dirty: list, Holder: 1}},
		seen{"3", goesOn, api.View{Amended: true, HasDirty: true, Dirty: list, Holder: 1}},
		seen{"4", goesOn, api.View{Amended: true, HasDirty: true, Dirty: list, Holder: 1}},
		seen{"5", goesOn, api.View{Amended: true, HasDirty: true, Dirty: list, Misses: 1, Holder: 1}},
		seen{"5a", goesOn, api.View{Read: list, HasDirty: true, Dirty: list, Misses: 1, Holder: 1}},
		seen{"5b", goesOn, api.View{Read: list, Misses: 1, Holder: 1}},
		seen{"5c", goesOn, api.View{Read: list, Holder: 1}},
		seen{"6", goesOn, api.View{Read: list, Holder: -1}},
		seen{"7", found(5), api.View{Read: list, Holder: -1}},
	)
	again := loading(s, 1, 3)
	wantStep(t, again, "1 again", goesOn)
	wantStep(t, again, "7 again", found(5))
	wantStep(t, loading(s, 1, 4), "1 of key 4", nothing)
}

// Misses below the number of DIRTY's keys leave it where it is, found or not.
func TestLoadThatMisses(t *testing.T) {
	s := sharing(state.Table{2: entryWith(api.Value, 9)}, true, state.Table{2: entryWith(api.Value, 9), 3: entryWith(api.Value, 5), 4: entryWith(api.Empty, 0)})
	before := s.View()
	absent := loading(s, 0, 6)
	wantSteps(t, absent, "1", "2", "3", "4", "5")
	wantView(t, s, "5", api.View{Read: before.Read, Amended: true, HasDirty: true, Dirty: before.Dirty, Misses: 1, Holder: 0})
	wantStep(t, absent, "6", nothing)
	wantView(t, s, "6", api.View{Read: before.Read, Amended: true, HasDirty: true, Dirty: before.Dirty, Misses: 1, Holder: -1})
	there := loading(s, 0, 3)
	wantSteps(t, there, "1", "2", "3", "4", "5", "6")
	wantStep(t, there, "7", found(5))
	last := loading(s, 0, 6)
	wantSteps(t, last, "1", "2", "3", "4", "5", "5a", "5b", "5c")
	wantStep(t, last, "6", nothing)
	wantView(t, s, "the third miss", api.View{Read: before.Dirty, Holder: -1})
}

// A load tells how it stands with the entry at its last step, not when it found it.
func TestLoadLooksAtTheEntryLast(t *testing.T) {
	e := entryWith(api.Value, 5)
	s := sharing(state.Table{3: e}, false, state.Table{})
	changed, deleted := loading(s, 0, 3), loading(s, 1, 3)
	wantStep(t, changed, "1", goesOn)
	wantStep(t, deleted, "1", goesOn)
	e.Set(state.Content{State: api.Value, Value: 8})
	wantStep(t, changed, "7", found(8))
	e.Set(state.Content{State: api.Empty})
	wantStep(t, deleted, "7", nothing)
}
