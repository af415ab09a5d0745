package readmost

import "readmost/api"

// mayBe tells whether a thread can be told to do op. Numbers that its kind does not use are not looked at.
func mayBe(op api.Op) bool {
	if op.Key < 0 || op.Key >= api.Keys {
		return false
	}
	switch op.Kind {
	case api.Load, api.Delete:
		return true
	case api.Store:
		return isValue(op.Value)
	case api.Replace:
		return isValue(op.Value) && isValue(op.Old)
	}
	return false
}

func isValue(n int) bool { return 1 <= n && n <= api.MaxValue }
