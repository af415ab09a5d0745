package readmost

import (
	"slices"
	"testing"

	"readmost/api"
	"readmost/state"
)

// mapFrom makes a map in which it stands as view says; a key that both tables have is one entry.
func mapFrom(t *testing.T, view api.View, threads int) *Map {
	t.Helper()
	m := newMap(t, threads)
	var read, dirty state.Table
	for _, e := range view.Read {
		read[e.Key] = entryFrom(e)
	}
	for _, e := range view.Dirty {
		if dirty[e.Key] = read[e.Key]; dirty[e.Key] == nil {
			dirty[e.Key] = entryFrom(e)
		}
	}
	m.shared.Read.Set(state.Read{Table: read, Amended: view.Amended})
	m.shared.Dirty.Set(state.Dirty{Table: dirty, There: view.HasDirty})
	m.shared.Misses.Set(view.Misses)
	return m
}

func entryFrom(e api.Entry) *state.Entry {
	entry := &state.Entry{}
	entry.Set(state.Content{State: e.State, Value: e.Value})
	return entry
}

// run is a map beside the document's: what is asked of the one is asked of the other. (Its methods come by the million: none calls Helper.)
type run struct {
	*testing.T
	start api.View
	todo  [][]api.Op // of each thread
	m     *Map
	d     *docMap
	begun []int // of each thread: how many of todo
	way   []int // the threads that went on so far
}

func newRun(t *testing.T, start api.View, todo ...[]api.Op) *run {
	return &run{T: t, start: start, todo: todo, m: mapFrom(t, start, len(todo)), d: docFrom(start, len(todo)), begun: make([]int, len(todo))}
}

// again makes another run that has come the same way.
func (r *run) again() *run {
	other := newRun(r.T, r.start, r.todo...)
	for _, thread := range r.way {
		other.goOn(thread)
	}
	return other
}

// whoCan tells which threads have something to do that is not blocked.
func (r *run) whoCan() []int {
	var who []int
	for thread := range r.todo {
		if r.isAtNothing(thread) && r.hasLeft(thread) || !r.isAtNothing(thread) && !r.d.isBlocked(thread) {
			who = append(who, thread)
		}
	}
	return who
}

func (r *run) isAtNothing(thread int) bool { return r.d.threads[thread].at == "" }

func (r *run) hasLeft(thread int) bool { return r.begun[thread] < len(r.todo[thread]) }

// goOn lets a thread do its next step; if it is at nothing it begins with what is left to it.
func (r *run) goOn(thread int) {
	r.way = append(r.way, thread)
	if r.isAtNothing(thread) {
		op := r.todo[thread][r.begun[thread]]
		r.begun[thread]++
		r.d.Begin(thread, op)
		if errno := r.m.Begin(thread, op); errno != api.OK {
			r.Fatalf("P4: the way %v: Begin(%d, %+v) = %d", r.way, thread, op, errno)
		}
	}
	r.step(thread)
}

func (r *run) step(thread int) {
	at := r.d.threads[thread]
	want, wantErrno := r.d.Step(thread)
	if got, errno := r.m.Step(thread); got != want || errno != wantErrno {
		r.Fatalf("P5, P6: the way %v: step %s of %+v = %+v, %d; want %+v, %d", r.way, at.at, at.op, got, errno, want, wantErrno)
	}
}

// check asks whether it stands as the document says, and whether nothing comes of the steps of threads that can't go on.
func (r *run) check() {
	for thread := range r.todo {
		if r.isAtNothing(thread) || r.d.isBlocked(thread) {
			r.step(thread)
		}
	}
	if got, want := r.m.Look(), r.d.Look(); !sameView(got, want) {
		r.Fatalf("P9: the way %v: Look = %+v; want %+v", r.way, got, want)
	}
}

// sameView takes a list of nothing for one, nil or not.
func sameView(a, b api.View) bool {
	return slices.Equal(a.Read, b.Read) && slices.Equal(a.Dirty, b.Dirty) && a.HasDirty == b.HasDirty && a.Amended == b.Amended && a.Misses == b.Misses && a.Holder == b.Holder
}

// checkEnd asks that all is done where nobody can go on, so that nobody waits for ever.
func (r *run) checkEnd() {
	for thread := range r.todo {
		if !r.isAtNothing(thread) || r.hasLeft(thread) {
			r.Fatalf("P5, P6: the way %v: thread %d can't go on", r.way, thread)
		}
	}
	if holder := r.m.Look().Holder; holder != -1 {
		r.Fatalf("P9: the way %v: all is done, and %d holds the lock", r.way, holder)
	}
}

// inAllOrders tries every order in which it can go on from here, and tells how many there are.
func (r *run) inAllOrders() int {
	r.check()
	who := r.whoCan()
	if len(who) == 0 {
		r.checkEnd()
		return 1
	}
	orders := 0
	for n, thread := range who {
		next := r
		if n < len(who)-1 {
			next = r.again()
		}
		next.goOn(thread)
		orders += next.inAllOrders()
	}
	return orders
}

func load(key int) api.Op { return api.Op{Kind: api.Load, Key: key} }

func store(key, value int) api.Op { return api.Op{Kind: api.Store, Key: key, Value: value} }

// starts are the states that small maps can be in while no thread is at anything.
func starts() map[string]api.View {
	five, six := api.Entry{Key: 3, Value: 5}, api.Entry{Key: 4, Value: 6}
	empty, gone := api.Entry{Key: 3, State: api.Empty}, api.Entry{Key: 3, State: api.Gone}
	return map[string]api.View{
		"the beginning":        {Holder: -1},
		"READ has keys":        {Read: []api.Entry{five, six}, Holder: -1},
		"READ has an empty":    {Read: []api.Entry{empty, six}, Holder: -1},
		"READ has a gone":      {Read: []api.Entry{gone, six}, Amended: true, HasDirty: true, Dirty: []api.Entry{six, {Key: 7, Value: 1000}}, Holder: -1},
		"DIRTY has a key":      {Amended: true, HasDirty: true, Dirty: []api.Entry{five}, Holder: -1},
		"DIRTY has keys":       {Amended: true, HasDirty: true, Dirty: []api.Entry{five, six}, Holder: -1},
		"one miss is to come":  {Read: []api.Entry{five}, Amended: true, HasDirty: true, Dirty: []api.Entry{five, six}, Misses: 1, Holder: -1},
		"two misses to come":   {Read: []api.Entry{six}, Amended: true, HasDirty: true, Dirty: []api.Entry{{Key: 0, Value: 1}, five, six}, Misses: 1, Holder: -1},
		"DIRTY has no keys":    {Amended: true, HasDirty: true, Holder: -1},
		"READ has an old gone": {Read: []api.Entry{gone}, Amended: true, HasDirty: true, Dirty: []api.Entry{six}, Holder: -1},
	}
}

func TestP5P6TwoThreadsInAllOrders(t *testing.T) {
	ops := []api.Op{load(3), load(7), store(3, 5), store(3, 1000), store(7, 1), store(0, 1)}
	for name, start := range starts() {
		orders := 0
		for i, one := range ops {
			for _, other := range ops[i:] {
				orders += newRun(t, start, []api.Op{one}, []api.Op{other}).inAllOrders()
			}
		}
		t.Logf("%s: %d orders", name, orders)
	}
}

// One that does two things, between which the other can come.
func TestP5P6TwoAgainstOneInAllOrders(t *testing.T) {
	for name, start := range starts() {
		orders := 0
		for _, one := range [][]api.Op{{store(7, 1), load(7)}, {load(7), store(3, 5)}, {store(3, 9), store(3, 5)}} {
			for _, other := range []api.Op{load(7), store(3, 8), store(7, 2)} {
				orders += newRun(t, start, one, []api.Op{other}).inAllOrders()
			}
		}
		t.Logf("%s: %d orders", name, orders)
	}
}

func TestP5P6ThreeThreadsInAllOrders(t *testing.T) {
	for name, start := range starts() {
		orders := newRun(t, start, []api.Op{store(3, 1)}, []api.Op{store(3, 2)}, []api.Op{load(3)}).inAllOrders()
		orders += newRun(t, start, []api.Op{store(7, 1)}, []api.Op{load(7)}, []api.Op{load(3)}).inAllOrders()
		t.Logf("%s: %d orders", name, orders)
	}
}

// mixer tells numbers that look mixed and are the same at each run.
type mixer uint64

func (m *mixer) below(n int) int {
	*m = *m*6364136223846793005 + 1442695040888963407
	return int(uint64(*m) >> 33 % uint64(n))
}

func (m *mixer) op() api.Op {
	values := []int{1, 5, 6, 1000}
	if m.below(2) == 0 {
		return load(m.below(api.Keys))
	}
	return store(m.below(api.Keys), values[m.below(len(values))])
}

func TestP5P6ManyThreadsInMixedOrders(t *testing.T) {
	for name, start := range starts() {
		mix := mixer(len(name))
		for n := range 60 {
			todo := make([][]api.Op, 1+n%api.MaxThreads)
			for thread := range todo {
				for range 24 / len(todo) {
					todo[thread] = append(todo[thread], mix.op())
				}
			}
			r := newRun(t, start, todo...)
			for who := r.whoCan(); len(who) > 0; who = r.whoCan() {
				r.goOn(who[mix.below(len(who))])
				r.check()
			}
			r.checkEnd()
		}
	}
}
