package steps

import "readmost/api"

// The number is that of Load's step in DOC.md; those ahead of it stand in find.go.

// 7.
func (t *Thread) loadLooksAtEntry() (api.Result, api.Errno) {
	content := t.entry.Look()
	if content.State != api.Value {
		return t.doneWithNothing()
	}
	return t.doneWith(content.Value)
}
