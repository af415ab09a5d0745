package steps

import (
	"readmost/api"
	"readmost/state"
)

// The numbers are those of Store's steps in DOC.md.

// 1.
func (t *Thread) storeLooksAtRead() (api.Result, api.Errno) {
	t.entry = t.shared.Read.Look().Table[t.op.Key]
	if t.entry == nil {
		return t.goOn(t.storeTakesLock)
	}
	return t.goOn(t.storeLooksAtEntry)
}

// 2. A value put into a gone entry would be lost: DIRTY, which will take READ's place, has not that entry.
func (t *Thread) storeLooksAtEntry() (api.Result, api.Errno) {
	t.seen = t.entry.Look()
	if t.seen.State == api.Gone {
		return t.goOn(t.storeTakesLock)
	}
	return t.goOn(t.storeSetsEntryIfAsSeen)
}

// 3.
func (t *Thread) storeSetsEntryIfAsSeen() (api.Result, api.Errno) {
	if !t.entry.SetIf(t.seen, state.Having(t.op.Value)) {
		return t.goOn(t.storeLooksAtEntry)
	}
	return t.doneWith(t.op.Value)
}

// 4.
func (t *Thread) storeTakesLock() (api.Result, api.Errno) {
	return t.takeLock(t.storeLooksAtReadAgain)
}

// 5. READ may have become another before the lock was taken.
func (t *Thread) storeLooksAtReadAgain() (api.Result, api.Errno) {
	t.entry = t.shared.Read.Look().Table[t.op.Key]
	if t.entry == nil {
		return t.goOn(t.storeLooksAtDirty)
	}
	return t.goOn(t.storeBringsEntryBack)
}

// 6.
func (t *Thread) storeBringsEntryBack() (api.Result, api.Errno) {
	if !t.entry.SetIf(state.Content{State: api.Gone}, state.Content{State: api.Empty}) {
		return t.goOn(t.storeSetsEntry)
	}
	return t.goOn(t.storePutsEntryInDirty)
}

// 7.
func (t *Thread) storePutsEntryInDirty() (api.Result, api.Errno) {
	t.shared.PutInDirty(t.op.Key, t.entry)
	return t.goOn(t.storeSetsEntry)
}

// 8.
func (t *Thread) storeLooksAtDirty() (api.Result, api.Errno) {
	t.entry = t.shared.Dirty.Look().Table[t.op.Key]
	if t.entry != nil {
		return t.goOn(t.storeSetsEntry)
	}
	if t.shared.Read.Look().Amended {
		return t.goOn(t.storePutsNewEntryInDirty)
	}
	return t.goOn(t.storeMakesDirty)
}

// 9.
func (t *Thread) storeMakesDirty() (api.Result, api.Errno) {
	t.shared.Dirty.Set(state.Dirty{There: true})
	return t.storeGoesOnCopying(0)
}

// 10.
func (t *Thread) storeCopiesKey() (api.Result, api.Errno) {
	e := t.shared.Read.Look().Table[t.copying]
	switch e.Look().State {
	case api.Empty:
		e.Set(state.Content{State: api.Gone})
	case api.Value:
		t.shared.PutInDirty(t.copying, e)
	}
	return t.storeGoesOnCopying(t.copying + 1)
}

// storeGoesOnCopying is the end of 9 and of 10: each key of READ is a step of its own.
func (t *Thread) storeGoesOnCopying(least int) (api.Result, api.Errno) {
	key, there := t.shared.Read.Look().KeyFrom(least)
	if !there {
		return t.goOn(t.storeAmendsRead)
	}
	t.copying = key
	return t.goOn(t.storeCopiesKey)
}

// 11.
func (t *Thread) storeAmendsRead() (api.Result, api.Errno) {
	read := t.shared.Read.Look()
	read.Amended = true
	t.shared.Read.Set(read)
	return t.goOn(t.storePutsNewEntryInDirty)
}

// 12.
func (t *Thread) storePutsNewEntryInDirty() (api.Result, api.Errno) {
	t.shared.PutInDirty(t.op.Key, state.NewEntry(t.op.Value))
	return t.goOn(t.storeFreesLock)
}

// 13.
func (t *Thread) storeSetsEntry() (api.Result, api.Errno) {
	t.entry.Set(state.Having(t.op.Value))
	return t.goOn(t.storeFreesLock)
}

// 14.
func (t *Thread) storeFreesLock() (api.Result, api.Errno) {
	t.freeLock()
	return t.doneWith(t.op.Value)
}
