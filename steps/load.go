package steps

import (
	"readmost/api"
	"readmost/state"
)

// The numbers are those of Load's steps in DOC.md.

// 1.
func (t *Thread) loadLooksAtRead() (api.Result, api.Errno) {
	read := t.shared.Read.Look()
	t.entry = read.Table[t.op.Key]
	if t.entry != nil {
		return t.goOn(t.loadLooksAtEntry)
	}
	if !read.Amended {
		return t.doneWithNothing()
	}
	return t.goOn(t.loadTakesLock)
}

// 2.
func (t *Thread) loadTakesLock() (api.Result, api.Errno) {
	return t.takeLock(t.loadLooksAtReadAgain)
}

// 3. READ may have become another before the lock was taken.
func (t *Thread) loadLooksAtReadAgain() (api.Result, api.Errno) {
	read := t.shared.Read.Look()
	t.entry = read.Table[t.op.Key]
	if t.entry != nil || !read.Amended {
		return t.goOn(t.loadFreesLock)
	}
	return t.goOn(t.loadLooksAtDirty)
}

// 4.
func (t *Thread) loadLooksAtDirty() (api.Result, api.Errno) {
	t.entry = t.shared.Dirty.Look().Table[t.op.Key]
	return t.goOn(t.loadCountsMiss)
}

// 5.
func (t *Thread) loadCountsMiss() (api.Result, api.Errno) {
	misses := t.shared.Misses.Look() + 1
	t.shared.Misses.Set(misses)
	if misses < t.shared.Dirty.Look().Count() {
		return t.goOn(t.loadFreesLock)
	}
	return t.goOn(t.loadPutsDirtyInReadsPlace)
}

// 5a.
func (t *Thread) loadPutsDirtyInReadsPlace() (api.Result, api.Errno) {
	t.shared.Read.Set(state.Read{Table: t.shared.Dirty.Look().Table})
	return t.goOn(t.loadDropsDirty)
}

// 5b.
func (t *Thread) loadDropsDirty() (api.Result, api.Errno) {
	t.shared.Dirty.Set(state.Dirty{})
	return t.goOn(t.loadForgetsMisses)
}

// 5c.
func (t *Thread) loadForgetsMisses() (api.Result, api.Errno) {
	t.shared.Misses.Set(0)
	return t.goOn(t.loadFreesLock)
}

// 6.
func (t *Thread) loadFreesLock() (api.Result, api.Errno) {
	t.freeLock()
	if t.entry == nil {
		return t.doneWithNothing()
	}
	return t.goOn(t.loadLooksAtEntry)
}

// 7.
func (t *Thread) loadLooksAtEntry() (api.Result, api.Errno) {
	content := t.entry.Look()
	if content.State != api.Value {
		return t.doneWithNothing()
	}
	return t.doneWith(content.Value)
}
