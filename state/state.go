// Package state: what the threads of one map share.
package state

import (
	"readmost/api"
	"readmost/cell"
)

// Nobody holds the lock.
const Nobody = -1

// Content is how it stands with an entry (api.Value, api.Empty, api.Gone), and its value: 0 if it has none.
type Content struct {
	State, Value int
}

// Having is the content of an entry that has this value.
func Having(value int) Content { return Content{State: api.Value, Value: value} }

// Entry can stand in both tables: whoever reached it by the one sees what was done to it by the other.
type Entry struct {
	cell.Cell[Content]
}

// NewEntry makes an entry that has this value.
func NewEntry(value int) *Entry {
	e := &Entry{}
	e.Set(Having(value))
	return e
}

// Table has an entry for each of its keys, nil for the others. It is an array so that a table that was looked at stays as it was seen.
type Table [api.Keys]*Entry

// Read is the table that is read without the lock. Amended: the dirty table has keys that it has not.
type Read struct {
	Table
	Amended bool
}

// Dirty is the table under the lock, if there is one.
type Dirty struct {
	Table
	There bool
}

// Shared is all that the threads of one map share.
type Shared struct {
	Read   cell.Cell[Read]
	Dirty  cell.Cell[Dirty]
	Misses cell.Cell[int]
	Lock   cell.Cell[int] // the number of the thread that holds it, or Nobody
}

// New makes what threads share, as at the beginning.
func New() *Shared {
	s := &Shared{}
	s.Lock.Set(Nobody)
	return s
}

// Count tells how many keys the table has.
func (t Table) Count() int {
	n := 0
	for _, e := range t {
		if e != nil {
			n++
		}
	}
	return n
}

// KeyFrom tells the table's next key, by rising keys: the first that is not below least, if there is one.
func (t Table) KeyFrom(least int) (key int, there bool) {
	for key := least; key < len(t); key++ {
		if t[key] != nil {
			return key, true
		}
	}
	return 0, false
}

// List tells the table's keys, by rising keys, in new memory.
func (t Table) List() []api.Entry {
	list := make([]api.Entry, 0, t.Count())
	for key, e := range t {
		if e == nil {
			continue
		}
		content := e.Look()
		list = append(list, api.Entry{Key: key, State: content.State, Value: content.Value})
	}
	return list
}

// PutInDirty lets the dirty table, which must be there, have key with e.
func (s *Shared) PutInDirty(key int, e *Entry) {
	dirty := s.Dirty.Look()
	dirty.Table[key] = e
	s.Dirty.Set(dirty)
}

// TakeFromDirty lets the dirty table lose key, if it has it.
func (s *Shared) TakeFromDirty(key int) {
	dirty := s.Dirty.Look()
	dirty.Table[key] = nil
	s.Dirty.Set(dirty)
}

// View tells what stands where.
func (s *Shared) View() api.View {
	read, dirty := s.Read.Look(), s.Dirty.Look()
	return api.View{
		Read:     read.List(),
		Amended:  read.Amended,
		HasDirty: dirty.There,
		Dirty:    dirty.List(),
		Misses:   s.Misses.Look(),
		Holder:   s.Lock.Look(),
	}
}
