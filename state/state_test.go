package state

import (
	"slices"
	"testing"

	"readmost/api"
)

func entryWith(stands, value int) *Entry {
	e := &Entry{}
	e.Set(Content{State: stands, Value: value})
	return e
}

// filled: READ has 0 (empty), 3 (5) and 7 (gone), DIRTY 3 (the same entry) and 4 (1,000).
func filled() *Shared {
	s := New()
	three := entryWith(api.Value, 5)
	s.Read.Set(Read{Table: Table{0: entryWith(api.Empty, 0), 3: three, 7: entryWith(api.Gone, 0)}, Amended: true})
	s.Dirty.Set(Dirty{Table: Table{3: three, 4: entryWith(api.Value, 1000)}, There: true})
	s.Misses.Set(1)
	s.Lock.Set(2)
	return s
}

var filledRead = []api.Entry{{Key: 0, State: api.Empty}, {Key: 3, State: api.Value, Value: 5}, {Key: 7, State: api.Gone}}
var filledDirty = []api.Entry{{Key: 3, State: api.Value, Value: 5}, {Key: 4, State: api.Value, Value: 1000}}

func isFilled(v api.View) bool {
	return slices.Equal(v.Read, filledRead) && v.Amended && v.HasDirty && slices.Equal(v.Dirty, filledDirty) && v.Misses == 1 && v.Holder == 2
}

func TestP3TheBeginning(t *testing.T) {
	v := New().View()
	if len(v.Read) != 0 || v.Amended || v.HasDirty || len(v.Dirty) != 0 || v.Misses != 0 || v.Holder != -1 {
		t.Errorf("P3: the view at the beginning = %+v", v)
	}
}

func TestP9ViewTellsEverything(t *testing.T) {
	if v := filled().View(); !isFilled(v) {
		t.Errorf("P9: the view = %+v", v)
	}
}

func TestP9ATableWithoutKeysIsATable(t *testing.T) {
	s := New()
	s.Dirty.Set(Dirty{There: true})
	if v := s.View(); !v.HasDirty || len(v.Dirty) != 0 {
		t.Errorf("P9: the view of a DIRTY without keys = %+v", v)
	}
}

func TestP9AllKeysByRisingKeys(t *testing.T) {
	var table Table
	for key := range table {
		table[key] = entryWith(api.Value, 1000-key)
	}
	list := table.List()
	if len(list) != api.Keys || table.Count() != api.Keys {
		t.Fatalf("P9: a table of all keys: %v, count %d", list, table.Count())
	}
	for key, got := range list {
		if got != (api.Entry{Key: key, State: api.Value, Value: 1000 - key}) {
			t.Errorf("P9: row %d = %v", key, got)
		}
	}
}

// scribble writes into all of a list, its spare room too.
func scribble(list []api.Entry) {
	list = list[:cap(list)]
	for i := range list {
		list[i] = api.Entry{Key: -1, State: -1, Value: -1}
	}
}

func TestP2ViewsShareNothing(t *testing.T) {
	s := filled()
	first, second := s.View(), s.View()
	scribble(first.Read)
	if !slices.Equal(first.Dirty, filledDirty) {
		t.Errorf("P2: writing into Read changed Dirty of the same view: %v", first.Dirty)
	}
	scribble(first.Dirty)
	if !isFilled(second) {
		t.Errorf("P2: writing into a view changed one told before: %+v", second)
	}
	if v := s.View(); !isFilled(v) {
		t.Errorf("P2: writing into a view changed a later one: %+v", v)
	}
}

func TestP2AViewStaysAsItWasTold(t *testing.T) {
	s := filled()
	v := s.View()
	s.Read.Look().Table[3].Set(Content{State: api.Empty})
	s.Dirty.Set(Dirty{})
	s.Misses.Set(0)
	s.Lock.Set(Nobody)
	if !isFilled(v) {
		t.Errorf("P2: what was done later changed a view: %+v", v)
	}
}

func TestKeyFromGoesByRisingKeys(t *testing.T) {
	table := Table{0: NewEntry(1), 3: entryWith(api.Gone, 0), 7: NewEntry(2)}
	for least, want := range []int{0, 3, 3, 3, 7, 7, 7, 7} {
		if key, there := table.KeyFrom(least); key != want || !there {
			t.Errorf("KeyFrom(%d) = %d, %t; want %d", least, key, there, want)
		}
	}
	if key, there := table.KeyFrom(api.Keys); there {
		t.Errorf("KeyFrom behind the last key = %d, %t", key, there)
	}
	if key, there := (Table{}).KeyFrom(0); there {
		t.Errorf("KeyFrom of a table without keys = %d, %t", key, there)
	}
}

func TestNewEntryHasItsValue(t *testing.T) {
	for _, value := range []int{1, 1000} {
		if got := NewEntry(value).Look(); got != (Content{State: api.Value, Value: value}) {
			t.Errorf("NewEntry(%d) has %v", value, got)
		}
	}
}

// A table that was looked at stays as it was seen.
func TestPutInDirtyPutsIntoDirtyAlone(t *testing.T) {
	s := filled()
	seen := s.Dirty.Look()
	e := NewEntry(9)
	s.PutInDirty(6, e)
	want := append(slices.Clone(filledDirty), api.Entry{Key: 6, State: api.Value, Value: 9})
	if v := s.View(); !slices.Equal(v.Dirty, want) || !v.HasDirty || !slices.Equal(v.Read, filledRead) {
		t.Errorf("behind PutInDirty the view = %+v", v)
	}
	if s.Dirty.Look().Table[6] != e || seen.Table[6] != nil {
		t.Error("PutInDirty put another entry, or into a table that was looked at before")
	}
	s.PutInDirty(6, entryWith(api.Empty, 0))
	if list := s.View().Dirty; list[len(list)-1] != (api.Entry{Key: 6, State: api.Empty}) {
		t.Errorf("behind PutInDirty under a key that was there: %v", list)
	}
}

func TestTakeFromDirtyTakesFromDirtyAlone(t *testing.T) {
	s := filled()
	seen := s.Dirty.Look()
	s.TakeFromDirty(0)
	s.TakeFromDirty(7)
	if v := s.View(); !isFilled(v) {
		t.Errorf("behind TakeFromDirty of keys that it has not the view = %+v", v)
	}
	s.TakeFromDirty(3)
	if v := s.View(); !slices.Equal(v.Dirty, filledDirty[1:]) || !slices.Equal(v.Read, filledRead) {
		t.Errorf("behind TakeFromDirty the view = %+v", v)
	}
	s.TakeFromDirty(4)
	if v := s.View(); len(v.Dirty) != 0 || !v.HasDirty {
		t.Errorf("behind TakeFromDirty of the last key the view = %+v", v)
	}
	if seen.Table[3] == nil || seen.Table[4] == nil {
		t.Error("TakeFromDirty took from a table that was looked at before")
	}
}

func TestTakeFromDirtyMakesNoDirty(t *testing.T) {
	s := New()
	s.TakeFromDirty(3)
	if s.View().HasDirty {
		t.Error("behind TakeFromDirty there is a DIRTY that was not there")
	}
}
