package steps

import (
	"readmost/api"
	"readmost/state"
)

// The numbers are those of Delete's steps in DOC.md; the others stand in find.go.

// 5. READ has not the key, so from here on nobody who does not have its entry already can find it.
func (t *Thread) deleteTakesKeyFromDirty() (api.Result, api.Errno) {
	t.shared.TakeFromDirty(t.op.Key)
	return t.goOn(t.findCountsMiss)
}

// 8.
func (t *Thread) deleteLooksAtEntry() (api.Result, api.Errno) {
	t.seen = t.entry.Look()
	if t.seen.State != api.Value {
		return t.doneWithNothing()
	}
	return t.goOn(t.deleteEmptiesEntryIfAsSeen)
}

// 9.
func (t *Thread) deleteEmptiesEntryIfAsSeen() (api.Result, api.Errno) {
	if !t.entry.SetIf(t.seen, state.Content{State: api.Empty}) {
		return t.goOn(t.deleteLooksAtEntry)
	}
	return t.doneWith(t.seen.Value)
}
