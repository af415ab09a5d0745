package steps

import (
	"readmost/api"
	"readmost/state"
)

// The numbers are those of Replace's steps in DOC.md; those ahead of them stand in find.go.

// 8.
func (t *Thread) replaceLooksAtEntry() (api.Result, api.Errno) {
	if t.entry.Look() != state.Having(t.op.Old) {
		return t.doneWithNothing()
	}
	return t.goOn(t.replaceSetsEntryIfStillOld)
}

// 9.
func (t *Thread) replaceSetsEntryIfStillOld() (api.Result, api.Errno) {
	if !t.entry.SetIf(state.Having(t.op.Old), state.Having(t.op.Value)) {
		return t.goOn(t.replaceLooksAtEntry)
	}
	return t.doneWith(t.op.Old)
}
