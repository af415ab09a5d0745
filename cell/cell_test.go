package cell

import "testing"

type pair struct{ a, b int }

func TestLookTellsWhatWasSet(t *testing.T) {
	var c Cell[pair]
	if got := c.Look(); got != (pair{}) {
		t.Errorf("a new cell holds %v", got)
	}
	c.Set(pair{1, 2})
	if got := c.Look(); got != (pair{1, 2}) {
		t.Errorf("behind Set the cell holds %v", got)
	}
}

func TestSetIfHoldsToWhatWasSeen(t *testing.T) {
	var c Cell[pair]
	c.Set(pair{1, 2})
	if c.SetIf(pair{1, 3}, pair{4, 4}) || c.Look() != (pair{1, 2}) {
		t.Errorf("SetIf with another thing seen: the cell holds %v", c.Look())
	}
	if !c.SetIf(pair{1, 2}, pair{5, 6}) || c.Look() != (pair{5, 6}) {
		t.Errorf("SetIf with the thing seen: the cell holds %v", c.Look())
	}
}
