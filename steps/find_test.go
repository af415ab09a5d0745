package steps

import (
	"testing"

	"readmost/api"
	"readmost/state"
)

// What Load, Delete and Replace have in common until they have found the entry.

// finder is an operation, with its steps under the lock where DIRTY stays in its place, and those at the entry but the last.
type finder struct {
	op       api.Op
	locked   []string
	atEntry  []string
	leavesIt api.Entry // how it stands with key 3, if it had 5
}

func finders() []finder {
	return []finder{
		{api.Op{Kind: api.Load}, []string{"3", "4", "5", "6"}, nil, value(3, 5)},
		{api.Op{Kind: api.Delete}, []string{"3", "4", "5", "6", "7"}, []string{"8"}, empty(3)},
		{api.Op{Kind: api.Replace, Old: 5, Value: 8}, []string{"3", "4", "6", "7"}, []string{"8"}, value(3, 8)},
	}
}

func (f finder) begin(s *state.Shared, number, key int) *Thread {
	th := New(number, s)
	f.op.Key = key
	th.Begin(f.op)
	return th
}

func TestP5P7P8FindInNothing(t *testing.T) {
	for _, f := range finders() {
		for _, key := range []int{0, 7} {
			s := state.New()
			wantStep(t, f.begin(s, 0, key), "1", nothing)
			wantView(t, s, "1", api.View{Holder: -1})
		}
	}
}

// READ that is not amended has all there is: nobody waits for the lock.
func TestP5P7P8FindWhatReadHasNot(t *testing.T) {
	for _, f := range finders() {
		s := sharing(state.Table{3: entryWith(api.Value, 5)}, false, state.Table{})
		s.Lock.Set(1)
		before := s.View()
		wantStep(t, f.begin(s, 0, 4), "1", nothing)
		wantView(t, s, "1", before)
	}
}

func TestP5P7P8FindBlocked(t *testing.T) {
	for _, f := range finders() {
		s := sharing(state.Table{}, true, state.Table{3: entryWith(api.Value, 5), 4: entryWith(api.Value, 6), 7: entryWith(api.Value, 7)})
		one, waiting := f.begin(s, 0, 3), []*Thread{storing(s, 1, 3, 9)}
		for n, other := range finders() {
			waiting = append(waiting, other.begin(s, 2+n, 3))
		}
		wantSteps(t, one, "1")
		for _, th := range waiting {
			wantSteps(t, th, "1")
		}
		wantSteps(t, one, "2")
		for _, step := range f.locked {
			for _, th := range waiting {
				wantBlocked(t, s, th)
			}
			wantSteps(t, one, step)
		}
		wantSteps(t, waiting[3], "the other's 2")
		if holder := s.View().Holder; holder != 4 {
			t.Errorf("P9: the lock's holder = %d", holder)
		}
		wantBlocked(t, s, waiting[0])
		wantSteps(t, one, f.atEntry...)
		wantStep(t, one, "the last", found(5))
	}
}

// Between 1 and 3 another thread puts DIRTY in READ's place: there is nothing to miss any more, nor to lose.
func TestP5P7P8FindReadChanged(t *testing.T) {
	for _, f := range finders() {
		s := sharing(state.Table{}, true, state.Table{3: entryWith(api.Value, 5)})
		there, absent := f.begin(s, 0, 3), f.begin(s, 1, 6)
		wantSteps(t, there, "1")
		wantSteps(t, absent, "1")
		finish(t, loading(s, 2, 3))
		wantSteps(t, absent, "2", "3")
		wantView(t, s, "3", api.View{Read: []api.Entry{value(3, 5)}, Holder: 1})
		wantStep(t, absent, "the freeing of the lock", nothing)
		wantSteps(t, there, "2", "3", "the freeing of the lock")
		wantView(t, s, "the freeing of the lock", api.View{Read: []api.Entry{value(3, 5)}, Holder: -1})
		wantSteps(t, there, f.atEntry...)
		wantStep(t, there, "the last", found(5))
		wantView(t, s, "the last", api.View{Read: []api.Entry{f.leavesIt}, Holder: -1})
	}
}

// READ may have the key at 3 and be amended: then DIRTY is not looked at, and keeps the key.
func TestP5P7P8FindReadChangedAndAmended(t *testing.T) {
	for _, f := range finders() {
		s := sharing(state.Table{}, true, state.Table{3: entryWith(api.Value, 5)})
		th := f.begin(s, 0, 3)
		wantSteps(t, th, "1")
		s.Read.Set(state.Read{Table: s.Dirty.Look().Table, Amended: true})
		before := s.View()
		wantSteps(t, th, "2", "3", "the freeing of the lock")
		wantView(t, s, "the freeing of the lock", before)
		wantSteps(t, th, f.atEntry...)
		wantStep(t, th, "the last", found(5))
		list := []api.Entry{f.leavesIt}
		wantView(t, s, "the last", api.View{Read: list, Amended: true, HasDirty: true, Dirty: list, Holder: -1})
	}
}
