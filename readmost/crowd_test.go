package readmost

import (
	"testing"

	"readmost/api"
)

// P11 and P12 asked of the calls alone: nothing here knows of steps.

// crowd is a map whose threads do one mixed operation behind the other.
type crowd struct {
	*testing.T
	m    *Map
	mix  mixer
	busy []bool
	keys int // how many there are to choose from
	most int // how many operations may begin in all
	history
}

func newCrowd(t *testing.T, threads, keys int, mix mixer) *crowd {
	return &crowd{T: t, m: newMap(t, threads), mix: mix, busy: make([]bool, threads), keys: keys}
}

func (c *crowd) begin(thread int, op api.Op) {
	if errno := c.m.Begin(thread, op); errno != api.OK {
		c.Fatalf("P4: Begin(%d, %+v) = %d behind %+v", thread, op, errno, c.deeds)
	}
	c.begins(thread, op)
	c.busy[thread] = true
}

// step tells whether the thread was not blocked.
func (c *crowd) step(thread int) bool {
	result, errno := c.m.Step(thread)
	if errno == api.ErrBlocked && result == (api.Result{}) {
		return false
	}
	if errno != api.OK || !result.Done && result != (api.Result{}) {
		c.Fatalf("P5 to P8: Step(%d) = %+v, %d behind %+v", thread, result, errno, c.deeds)
	}
	if result.Done {
		c.ends(thread, result)
		c.busy[thread] = false
	}
	return true
}

// goesOn lets a thread do some steps, few or many, over the end of one operation into the next.
func (c *crowd) goesOn(thread int) {
	for range 1 + c.mix.below(1<<c.mix.below(6)) {
		if !c.busy[thread] && len(c.deeds) < c.most {
			c.begin(thread, c.mix.op(c.keys))
		}
		if !c.busy[thread] || !c.step(thread) {
			return
		}
	}
}

// finishes lets a thread go on alone to the end of what it is at.
func (c *crowd) finishes(thread int) {
	for n := 0; c.busy[thread]; n++ {
		if n == 30 || !c.step(thread) {
			c.Fatalf("P12: thread %d is not done with %d steps alone, behind %+v", thread, n, c.deeds)
		}
	}
}

// mayFinish tells whether no other thread holds the lock.
func (c *crowd) mayFinish(thread int) bool {
	holder := c.m.Look().Holder
	return holder == -1 || holder == thread
}

func (c *crowd) check() {
	if !c.hasOrder() {
		c.Fatalf("P11: a plain map could not have answered %+v", c.deeds)
	}
}

// goOnUntil lets the first so many threads go on until so many operations have begun.
func (c *crowd) goOnUntil(deeds, threads int) {
	c.most = deeds
	for len(c.deeds) < deeds {
		thread := c.mix.below(threads)
		c.goesOn(thread)
		if c.mix.below(8) == 0 && c.mayFinish(thread) {
			c.finishes(thread)
		}
	}
}

// finishAll lets all threads come to their end, and loads every key: what stands there has to have come about too.
func (c *crowd) finishAll() {
	for range 2 { // those who waited for the lock come second
		for thread := range c.busy {
			if c.mayFinish(thread) {
				c.finishes(thread)
			}
		}
	}
	for key := range api.Keys {
		c.does(load(key))
	}
}

// does lets thread 0 do op from beginning to end.
func (c *crowd) does(op api.Op) {
	c.begin(0, op)
	c.finishes(0)
}

func TestP11AndP12InMixedOrders(t *testing.T) {
	for threads := 1; threads <= api.MaxThreads; threads++ {
		for n := range 1000 {
			c := newCrowd(t, threads, 1+n%api.Keys, mixer(n))
			c.goOnUntil(40, threads)
			c.check() // some are not done
			c.finishAll()
			c.check()
		}
	}
}

// One thread stands still in the midst of an operation while others do much.
func TestP11AThreadThatSleeps(t *testing.T) {
	for n := range 5000 {
		c := newCrowd(t, 3, 1+n%4, mixer(n))
		c.goOnUntil(8, 2)
		c.begin(2, c.mix.op(c.keys))
		for range c.mix.below(14) {
			if c.busy[2] {
				c.step(2)
			}
		}
		for c.m.Look().Holder == 2 { // with the lock it would stop the others
			c.step(2)
		}
		c.goOnUntil(40, 2)
		c.finishAll()
		c.check()
	}
}

// At each number of keys and of misses, so that the longest ways are among them.
func TestP12EachOperationAlone(t *testing.T) {
	for keys := range api.Keys + 1 {
		for misses := range keys + 1 {
			for key := range api.Keys {
				for _, op := range []api.Op{load(key), store(key, 1000), remove(key), replace(key, 1, 1000), replace(key, 1000, 1)} {
					c := newCrowd(t, 1, api.Keys, 0)
					for stored := range keys {
						c.does(store(stored, 1))
					}
					for range misses {
						c.does(load(0))
					}
					c.does(op)
					c.finishAll()
					c.check()
				}
			}
		}
	}
}
