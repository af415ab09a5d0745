package steps

import (
	"readmost/api"
	"readmost/state"
)

// Load, Delete and Replace find the entry of their key by the same steps. The first number is that of Load's step in DOC.md, the second that of Delete's and Replace's where it is another.

// 1.
func (t *Thread) findLooksAtRead() (api.Result, api.Errno) {
	read := t.shared.Read.Look()
	t.entry = read.Table[t.op.Key]
	if t.entry != nil {
		return t.goOn(t.firstAtEntry())
	}
	if !read.Amended {
		return t.doneWithNothing()
	}
	return t.goOn(t.findTakesLock)
}

// 2.
func (t *Thread) findTakesLock() (api.Result, api.Errno) {
	return t.takeLock(t.findLooksAtReadAgain)
}

// 3. READ may have become another before the lock was taken.
func (t *Thread) findLooksAtReadAgain() (api.Result, api.Errno) {
	read := t.shared.Read.Look()
	t.entry = read.Table[t.op.Key]
	if t.entry != nil || !read.Amended {
		return t.goOn(t.findFreesLock)
	}
	return t.goOn(t.findLooksAtDirty)
}

// 4.
func (t *Thread) findLooksAtDirty() (api.Result, api.Errno) {
	t.entry = t.shared.Dirty.Look().Table[t.op.Key]
	return t.goOn(t.behindDirty())
}

// behindDirty is where an operation goes on when it has looked at DIRTY: to a Replace that finds nothing there it is no miss.
func (t *Thread) behindDirty() step {
	switch {
	case t.op.Kind == api.Delete:
		return t.deleteTakesKeyFromDirty
	case t.op.Kind == api.Replace && t.entry == nil:
		return t.findFreesLock
	}
	return t.findCountsMiss
}

// 5, 6.
func (t *Thread) findCountsMiss() (api.Result, api.Errno) {
	misses := t.shared.Misses.Look() + 1
	t.shared.Misses.Set(misses)
	if misses < t.shared.Dirty.Look().Count() {
		return t.goOn(t.findFreesLock)
	}
	return t.goOn(t.findPutsDirtyInReadsPlace)
}

// 5a, 6a.
func (t *Thread) findPutsDirtyInReadsPlace() (api.Result, api.Errno) {
	t.shared.Read.Set(state.Read{Table: t.shared.Dirty.Look().Table})
	return t.goOn(t.findDropsDirty)
}

// 5b, 6b.
func (t *Thread) findDropsDirty() (api.Result, api.Errno) {
	t.shared.Dirty.Set(state.Dirty{})
	return t.goOn(t.findForgetsMisses)
}

// 5c, 6c.
func (t *Thread) findForgetsMisses() (api.Result, api.Errno) {
	t.shared.Misses.Set(0)
	return t.goOn(t.findFreesLock)
}

// 6, 7.
func (t *Thread) findFreesLock() (api.Result, api.Errno) {
	t.freeLock()
	if t.entry == nil {
		return t.doneWithNothing()
	}
	return t.goOn(t.firstAtEntry())
}

// firstAtEntry is where an operation goes on when it has found its entry.
func (t *Thread) firstAtEntry() step {
	switch t.op.Kind {
	case api.Delete:
		return t.deleteLooksAtEntry
	case api.Replace:
		return t.replaceLooksAtEntry
	}
	return t.loadLooksAtEntry
}
