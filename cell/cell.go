// Package cell: the one kind of place in which threads share things.
package cell

// Cell holds one thing. What it is asked for and told is one moment each, so that a step can be made of it.
type Cell[T comparable] struct {
	held T
}

// Look tells what the cell holds.
func (c *Cell[T]) Look() T { return c.held }

// Set lets the cell hold next, whatever it held.
func (c *Cell[T]) Set(next T) { c.held = next }

// SetIf lets the cell hold next if it still holds seen, and tells whether it did.
func (c *Cell[T]) SetIf(seen, next T) bool {
	if c.held != seen {
		return false
	}
	c.held = next
	return true
}
