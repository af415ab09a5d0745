package readmost

import (
	"slices"
	"testing"

	"readmost/api"
	"readmost/state"
)

// mapFrom makes a map in which it stands as view says; a key that both tables have is one entry.
func mapFrom(t *testing.T, view api.View, threads int) *Map {
	t.Helper()
	m := newMap(t, threads)
	var read, dirty state.Table
	for _, e := range view.Read {
		read[e.Key] = entryFrom(e)
	}
	for _, e := range view.Dirty {
		if dirty[e.Key] = read[e.Key]; dirty[e.Key] == nil {
			dirty[e.Key] = entryFrom(e)
		}
	}
	m.shared.Read.Set(state.Read{Table: read, Amended: view.Amended})
	m.shared.Dirty.Set(state.Dirty{Table: dirty, There: view.HasDirty})
	m.shared.Misses.Set(view.Misses)
	return m
}

func entryFrom(e api.Entry) *state.Entry {
	entry := &state.Entry{}
	entry.Set(state.Content{State: e.State, Value: e.Value})
	return entry
}

// run is a map beside the document's: what is asked of the one is asked of the other. (Its methods come by the million: none calls Helper.)
type run struct {
	*testing.T
	start api.View
	todo  [][]api.Op // of each thread
	m     *Map
	d     *docMap
	begun []int // of each thread: how many of todo
	way   []int // the threads that went on so far
	alone int   // how many steps of one operation were the last
	history
}

func newRun(t *testing.T, start api.View, todo ...[]api.Op) *run {
	return &run{T: t, start: start, todo: todo, m: mapFrom(t, start, len(todo)), d: docFrom(start, len(todo)), begun: make([]int, len(todo)), history: history{start: valuesOf(start)}}
}

// valuesOf tells which value each key has, or 0. What is in READ counts: what it has and DIRTY has not is gone.
func valuesOf(view api.View) [api.Keys]int {
	var values [api.Keys]int
	for _, e := range slices.Concat(view.Dirty, view.Read) {
		values[e.Key] = e.Value
	}
	return values
}

// again makes another run that has come the same way.
func (r *run) again() *run {
	other := newRun(r.T, r.start, r.todo...)
	for _, thread := range r.way {
		other.goOn(thread)
	}
	return other
}

// whoCan tells which threads have something to do that is not blocked.
func (r *run) whoCan() []int {
	var who []int
	for thread := range r.todo {
		if r.isAtNothing(thread) && r.hasLeft(thread) || !r.isAtNothing(thread) && !r.d.isBlocked(thread) {
			who = append(who, thread)
		}
	}
	return who
}

func (r *run) isAtNothing(thread int) bool { return r.d.threads[thread].at == "" }

func (r *run) hasLeft(thread int) bool { return r.begun[thread] < len(r.todo[thread]) }

// goOn lets a thread do its next step; if it is at nothing it begins with what is left to it.
func (r *run) goOn(thread int) {
	if n := len(r.way); n > 0 && r.way[n-1] != thread {
		r.alone = 0
	}
	r.way = append(r.way, thread)
	if r.isAtNothing(thread) {
		r.begin(thread)
	}
	if r.alone++; r.alone > 30 {
		r.Fatalf("P12: the way %v: %d steps alone", r.way, r.alone)
	}
	r.step(thread)
}

func (r *run) begin(thread int) {
	op := r.todo[thread][r.begun[thread]]
	r.begun[thread]++
	r.alone = 0
	r.begins(thread, op)
	r.d.Begin(thread, op)
	if errno := r.m.Begin(thread, op); errno != api.OK {
		r.Fatalf("P4: the way %v: Begin(%d, %+v) = %d", r.way, thread, op, errno)
	}
}

func (r *run) step(thread int) {
	at := r.d.threads[thread]
	want, wantErrno := r.d.Step(thread)
	got, errno := r.m.Step(thread)
	if got != want || errno != wantErrno {
		r.Fatalf("P5 to P8: the way %v: step %s of %+v = %+v, %d; want %+v, %d", r.way, at.at, at.op, got, errno, want, wantErrno)
	}
	if got.Done {
		r.ends(thread, got)
	}
}

// check asks whether it stands as the document says, and whether nothing comes of the steps of threads that can't go on.
func (r *run) check() {
	for thread := range r.todo {
		if r.isAtNothing(thread) || r.d.isBlocked(thread) {
			r.step(thread)
		}
	}
	if got, want := r.m.Look(), r.d.Look(); !sameView(got, want) {
		r.Fatalf("P9: the way %v: Look = %+v; want %+v", r.way, got, want)
	}
}

// sameView takes a list of nothing for one, nil or not.
func sameView(a, b api.View) bool {
	return slices.Equal(a.Read, b.Read) && slices.Equal(a.Dirty, b.Dirty) && a.HasDirty == b.HasDirty && a.Amended == b.Amended && a.Misses == b.Misses && a.Holder == b.Holder
}

// checkEnd asks that all is done where nobody can go on, so that nobody waits for ever, and that what was answered can be.
func (r *run) checkEnd() {
	for thread := range r.todo {
		if !r.isAtNothing(thread) || r.hasLeft(thread) {
			r.Fatalf("P5 to P8: the way %v: thread %d can't go on", r.way, thread)
		}
	}
	view := r.m.Look()
	if view.Holder != -1 {
		r.Fatalf("P9: the way %v: all is done, and %d holds the lock", r.way, view.Holder)
	}
	r.foundAtTheEnd(valuesOf(view))
	if !r.hasOrder() {
		r.Fatalf("P11: the way %v: a plain map could not have answered %+v", r.way, r.deeds)
	}
}

// foundAtTheEnd adds Loads of all keys to the history, so that what stands there at the end has to have come about too.
func (r *run) foundAtTheEnd(values [api.Keys]int) {
	for key, value := range values {
		r.begins(0, load(key))
		result, _ := answer(load(key), value)
		r.ends(0, result)
	}
}

// inAllOrders tries every order in which it can go on from here, and tells how many there are.
func (r *run) inAllOrders() int {
	r.check()
	who := r.whoCan()
	if len(who) == 0 {
		r.checkEnd()
		return 1
	}
	orders := 0
	for _, next := range r.branches(who) {
		orders += next.inAllOrders()
	}
	return orders
}

// toAllStates comes to every state to which it can come from here, each by one way, and tells how many there are that were not known.
func (r *run) toAllStates(known map[string]bool) int {
	state := r.d.text() + r.text()
	if known[state] {
		return 0
	}
	known[state] = true
	r.check()
	r.checkAlone()
	who := r.whoCan()
	if len(who) == 0 {
		r.checkEnd()
	}
	states := 1
	for _, next := range r.branches(who) {
		states += next.toAllStates(known)
	}
	return states
}

// branches tells a run for each of who, in which this one went on; the last of them is the run itself.
func (r *run) branches(who []int) []*run {
	runs := make([]*run, len(who))
	for n := range who {
		if runs[n] = r; n < len(who)-1 {
			runs[n] = r.again()
		}
	}
	for n, thread := range who {
		runs[n].goOn(thread)
	}
	return runs
}

// checkAlone asks P12 of each thread that is at something and has nobody to wait for.
func (r *run) checkAlone() {
	for thread := range r.todo {
		if holder := r.d.holder; r.isAtNothing(thread) || holder != -1 && holder != thread {
			continue
		}
		other := r.again()
		other.alone = 0
		for !other.isAtNothing(thread) {
			other.goOn(thread)
		}
	}
}

func load(key int) api.Op { return api.Op{Kind: api.Load, Key: key} }

func store(key, value int) api.Op { return api.Op{Kind: api.Store, Key: key, Value: value} }

func remove(key int) api.Op { return api.Op{Kind: api.Delete, Key: key} }

func replace(key, old, value int) api.Op {
	return api.Op{Kind: api.Replace, Key: key, Value: value, Old: old}
}

// starts are the states that small maps can be in while no thread is at anything.
func starts() map[string]api.View {
	five, six := api.Entry{Key: 3, Value: 5}, api.Entry{Key: 4, Value: 6}
	empty, gone := api.Entry{Key: 3, State: api.Empty}, api.Entry{Key: 3, State: api.Gone}
	return map[string]api.View{
		"the beginning":        {Holder: -1},
		"READ has keys":        {Read: []api.Entry{five, six}, Holder: -1},
		"READ has an empty":    {Read: []api.Entry{empty, six}, Holder: -1},
		"READ has a gone":      {Read: []api.Entry{gone, six}, Amended: true, HasDirty: true, Dirty: []api.Entry{six, {Key: 7, Value: 1000}}, Holder: -1},
		"DIRTY has a key":      {Amended: true, HasDirty: true, Dirty: []api.Entry{five}, Holder: -1},
		"DIRTY has keys":       {Amended: true, HasDirty: true, Dirty: []api.Entry{five, six}, Holder: -1},
		"one miss is to come":  {Read: []api.Entry{five}, Amended: true, HasDirty: true, Dirty: []api.Entry{five, six}, Misses: 1, Holder: -1},
		"two misses to come":   {Read: []api.Entry{six}, Amended: true, HasDirty: true, Dirty: []api.Entry{{Key: 0, Value: 1}, five, six}, Misses: 1, Holder: -1},
		"DIRTY has no keys":    {Amended: true, HasDirty: true, Holder: -1},
		"READ has an old gone": {Read: []api.Entry{gone}, Amended: true, HasDirty: true, Dirty: []api.Entry{six}, Holder: -1},
		"both have an empty":   {Read: []api.Entry{empty, six}, Amended: true, HasDirty: true, Dirty: []api.Entry{empty, six, {Key: 7, Value: 1000}}, Misses: 2, Holder: -1},
	}
}

// fromEachStart lets the starts be gone through side by side: they are many, and each has its own maps.
func fromEachStart(t *testing.T, try func(t *testing.T, start api.View)) {
	for name, start := range starts() {
		t.Run(name, func(t *testing.T) {
			t.Parallel()
			try(t, start)
		})
	}
}

func TestP5ToP8TwoThreadsInAllOrders(t *testing.T) {
	ops := []api.Op{
		load(3), load(7), store(3, 5), store(3, 1000), store(7, 1), store(0, 1), remove(3), remove(4), remove(7),
		replace(3, 5, 8), replace(3, 1000, 1), replace(4, 6, 6), replace(7, 1, 1000),
	}
	fromEachStart(t, func(t *testing.T, start api.View) {
		orders := 0
		for i, one := range ops {
			for _, other := range ops[i:] {
				orders += newRun(t, start, []api.Op{one}, []api.Op{other}).inAllOrders()
			}
		}
		t.Logf("%d orders", orders)
	})
}

// One that does two things, between which the other can come: what was seen may be gone then, and may be back.
func TestP5ToP8TwoAgainstOneToAllStates(t *testing.T) {
	ones := [][]api.Op{
		{store(7, 1), load(7)}, {load(7), store(3, 5)}, {store(3, 9), store(3, 5)},
		{remove(3), store(3, 5)}, {remove(3), store(7, 5)}, {store(3, 5), remove(3)}, {replace(3, 5, 8), replace(3, 8, 5)}, {remove(3), remove(3)},
	}
	others := []api.Op{load(7), store(3, 8), store(7, 2), load(3), remove(3), remove(7), replace(3, 5, 9)}
	fromEachStart(t, func(t *testing.T, start api.View) {
		states := 0
		for _, one := range ones {
			for _, other := range others {
				states += newRun(t, start, one, []api.Op{other}).toAllStates(map[string]bool{})
			}
		}
		t.Logf("%d states", states)
	})
}

func TestP5ToP8ThreeThreadsToAllStates(t *testing.T) {
	ops := []api.Op{load(3), store(3, 5), remove(3), replace(3, 5, 8), store(7, 1)}
	fromEachStart(t, func(t *testing.T, start api.View) {
		states := 0
		for i := range ops {
			for j := range ops[:i+1] {
				for k := range ops[:j+1] {
					r := newRun(t, start, []api.Op{ops[i]}, []api.Op{ops[j]}, []api.Op{ops[k]})
					states += r.toAllStates(map[string]bool{})
				}
			}
		}
		t.Logf("%d states", states)
	})
}

// mixer tells numbers that look mixed and are the same at each run.
type mixer uint64

func (m *mixer) below(n int) int {
	*m = *m*6364136223846793005 + 1442695040888963407
	return int(uint64(*m) >> 33 % uint64(n))
}

// op tells an operation of any kind, with one of the first so many keys and values that are at hand.
func (m *mixer) op(keys int) api.Op {
	key := []int{0, 7, 3, 4, 1, 6, 2, 5}[m.below(keys)]
	values := []int{1, 5, 6, 1000}
	value, old := values[m.below(len(values))], values[m.below(len(values))]
	return []api.Op{load(key), store(key, value), remove(key), replace(key, old, value)}[m.below(4)]
}

func TestP5ToP8ManyThreadsInMixedOrders(t *testing.T) {
	fromEachStart(t, func(t *testing.T, start api.View) {
		mix := mixer(len(start.Read) + 8*len(start.Dirty))
		for n := range 120 {
			todo := make([][]api.Op, 1+n%api.MaxThreads)
			for thread := range todo {
				for range 36 / len(todo) {
					todo[thread] = append(todo[thread], mix.op(1+n%api.Keys))
				}
			}
			r := newRun(t, start, todo...)
			for who := r.whoCan(); len(who) > 0; who = r.whoCan() {
				r.goOn(who[mix.below(len(who))])
				r.check()
			}
			r.checkEnd()
		}
	})
}
