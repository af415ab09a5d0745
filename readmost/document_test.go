package readmost

import (
	"fmt"
	"maps"
	"slices"

	"readmost/api"
)

// The document's steps, word for word and by other means than the program's, so that the two can be held against each other.

type docEntry struct{ state, value int }

type docThread struct {
	op   api.Op
	at   string // the number of the step; "": at nothing
	e    *docEntry
	seen docEntry
	rest []int // READ's keys that Store's 10 has not looked at
}

type docMap struct {
	read, dirty    map[int]*docEntry // dirty is nil if there is none
	amended        bool
	misses, holder int
	threads        []docThread
}

// docFrom makes one in which it stands as view says; a key that both tables have is one entry.
func docFrom(view api.View, threads int) *docMap {
	d := &docMap{read: map[int]*docEntry{}, amended: view.Amended, misses: view.Misses, holder: view.Holder, threads: make([]docThread, threads)}
	for _, e := range view.Read {
		d.read[e.Key] = &docEntry{e.State, e.Value}
	}
	if view.HasDirty {
		d.dirty = map[int]*docEntry{}
	}
	for _, e := range view.Dirty {
		d.dirty[e.Key] = &docEntry{e.State, e.Value}
		if shared := d.read[e.Key]; shared != nil {
			d.dirty[e.Key] = shared
		}
	}
	return d
}

func (d *docMap) Look() api.View {
	list := func(table map[int]*docEntry) []api.Entry {
		entries := []api.Entry{}
		for _, key := range slices.Sorted(maps.Keys(table)) {
			entries = append(entries, api.Entry{Key: key, State: table[key].state, Value: table[key].value})
		}
		return entries
	}
	return api.View{Read: list(d.read), Amended: d.amended, HasDirty: d.dirty != nil, Dirty: list(d.dirty), Misses: d.misses, Holder: d.holder}
}

// text tells all of it; which entries are one and the same is told by numbers.
func (d *docMap) text() string {
	numbers := map[*docEntry]int{}
	tell := func(e *docEntry) string {
		if e == nil {
			return "none"
		}
		if numbers[e] == 0 {
			numbers[e] = len(numbers) + 1
		}
		return fmt.Sprint("#", numbers[e], *e)
	}
	text := fmt.Sprint(d.amended, d.misses, d.holder, d.dirty != nil)
	for _, table := range []map[int]*docEntry{d.read, d.dirty} {
		for _, key := range slices.Sorted(maps.Keys(table)) {
			text += fmt.Sprint(" ", key, tell(table[key]))
		}
		text += "."
	}
	for _, t := range d.threads {
		text += fmt.Sprint(t.op, t.at, tell(t.e), t.seen, t.rest)
	}
	return text
}

func (d *docMap) Begin(thread int, op api.Op) { d.threads[thread] = docThread{op: op, at: "1"} }

func (d *docMap) Step(thread int) (api.Result, api.Errno) {
	t := &d.threads[thread]
	if t.at == "" {
		return api.Result{}, api.ErrIdle
	}
	if d.isBlocked(thread) {
		return api.Result{}, api.ErrBlocked
	}
	var found int // 0: nothing
	switch t.op.Kind {
	case api.Load:
		t.at, found = d.load(thread, t, t.at)
	case api.Store:
		t.at, found = d.store(thread, t)
	case api.Delete:
		t.at, found = d.remove(thread, t)
	case api.Replace:
		t.at, found = d.replace(thread, t)
	}
	if t.at != "done" {
		return api.Result{}, api.OK
	}
	*t = docThread{}
	return api.Result{Done: true, Found: found != 0, Value: found}, api.OK
}

func (d *docMap) isBlocked(thread int) bool {
	t := d.threads[thread]
	takesLock := t.at == "2"
	if t.op.Kind == api.Store {
		takesLock = t.at == "4"
	}
	return takesLock && d.holder != -1 && d.holder != thread
}

// load does the step at and tells at which one it goes on, and which value was found.
func (d *docMap) load(thread int, t *docThread, at string) (string, int) {
	inRead, has := d.read[t.op.Key]
	switch at {
	case "1":
		switch {
		case has:
			t.e = inRead
			return "7", 0
		case !d.amended:
			return "done", 0
		}
		return "2", 0
	case "2":
		d.holder = thread
		return "3", 0
	case "3":
		switch {
		case has:
			t.e = inRead
			return "6", 0
		case !d.amended:
			t.e = nil
			return "6", 0
		}
		return "4", 0
	case "4":
		t.e = d.dirty[t.op.Key]
		return "5", 0
	case "5":
		if d.misses++; d.misses < len(d.dirty) {
			return "6", 0
		}
		return "5a", 0
	case "5a":
		d.read, d.amended = maps.Clone(d.dirty), false
		return "5b", 0
	case "5b":
		d.dirty = nil
		return "5c", 0
	case "5c":
		d.misses = 0
		return "6", 0
	case "6":
		d.holder = -1
		if t.e == nil {
			return "done", 0
		}
		return "7", 0
	}
	if t.e.state == api.Value {
		return "done", t.e.value
	}
	return "done", 0
}

// remove is as load, for Delete.
func (d *docMap) remove(thread int, t *docThread) (string, int) {
	switch t.at {
	case "5":
		delete(d.dirty, t.op.Key)
		return "6", 0
	case "8":
		if t.seen = *t.e; t.seen.state == api.Value {
			return "9", 0
		}
		return "done", 0
	case "9":
		if *t.e != t.seen {
			return "8", 0
		}
		*t.e = docEntry{state: api.Empty}
		return "done", t.seen.value
	}
	return d.asLoad(thread, t), 0
}

// Which of Load's steps a step of Delete is as, and the other way round where Load goes on.
var (
	deletesAsLoads = map[string]string{"1": "1", "2": "2", "3": "3", "4": "4", "6": "5", "6a": "5a", "6b": "5b", "6c": "5c", "7": "6"}
	loadsAsDeletes = map[string]string{"2": "2", "3": "3", "4": "4", "5a": "6a", "5b": "6b", "5c": "6c", "6": "7", "7": "8", "done": "done"}
)

// asLoad does Delete's steps that are as Load's, and tells at which of Delete's it goes on.
func (d *docMap) asLoad(thread int, t *docThread) string {
	next, _ := d.load(thread, t, deletesAsLoads[t.at])
	if t.at == "4" {
		return "5"
	}
	return loadsAsDeletes[next]
}

// replace is as load, for Replace.
func (d *docMap) replace(thread int, t *docThread) (string, int) {
	old := docEntry{api.Value, t.op.Old}
	switch t.at {
	case "4":
		d.asLoad(thread, t)
		if t.e == nil {
			return "7", 0
		}
		return "6", 0
	case "8":
		if *t.e == old {
			return "9", 0
		}
		return "done", 0
	case "9":
		if *t.e != old {
			return "8", 0
		}
		*t.e = docEntry{api.Value, t.op.Value}
		return "done", t.op.Old
	}
	return d.asLoad(thread, t), 0
}

// store is as load.
func (d *docMap) store(thread int, t *docThread) (string, int) {
	inRead, has := d.read[t.op.Key]
	stored := docEntry{api.Value, t.op.Value}
	switch t.at {
	case "1":
		if has {
			t.e = inRead
			return "2", 0
		}
		return "4", 0
	case "2":
		if t.seen = *t.e; t.seen.state == api.Gone {
			return "4", 0
		}
		return "3", 0
	case "3":
		if *t.e != t.seen {
			return "2", 0
		}
		*t.e = stored
		return "done", t.op.Value
	case "4":
		d.holder = thread
		return "5", 0
	case "5":
		if has {
			t.e = inRead
			return "6", 0
		}
		return "8", 0
	case "6":
		if t.e.state == api.Gone {
			t.e.state = api.Empty
			return "7", 0
		}
		return "13", 0
	case "7":
		d.dirty[t.op.Key] = t.e
		return "13", 0
	case "13":
		*t.e = stored
		return "14", 0
	case "14":
		d.holder = -1
		return "done", t.op.Value
	}
	return d.storeNewKey(t), 0
}

// storeNewKey has Store's steps 8 to 12.
func (d *docMap) storeNewKey(t *docThread) string {
	switch t.at {
	case "8":
		if e := d.dirty[t.op.Key]; e != nil {
			t.e = e
			return "13"
		}
		if d.amended {
			return "12"
		}
		return "9"
	case "9":
		d.dirty = map[int]*docEntry{}
		t.rest = slices.Sorted(maps.Keys(d.read))
	case "10":
		key := t.rest[0]
		switch e := d.read[key]; e.state {
		case api.Empty:
			e.state = api.Gone
		case api.Value:
			d.dirty[key] = e
		}
		t.rest = t.rest[1:]
	case "11":
		d.amended = true
		return "12"
	case "12":
		d.dirty[t.op.Key] = &docEntry{api.Value, t.op.Value}
		return "14"
	}
	if len(t.rest) > 0 {
		return "10"
	}
	return "11"
}
