package readmost

import (
	"fmt"
	"testing"

	"readmost/api"
)

// What P11 asks: that there is an order in which a plain map would have answered the same.

// deed is an operation that has begun.
type deed struct {
	op           api.Op
	began, ended int // at which calls; ended is 0 while it is not done
	result       api.Result
}

// history is what was asked of a map and answered.
type history struct {
	start [api.Keys]int // the value of each key ahead of all deeds, or 0
	deeds []deed
	whose []int               // of each deed: the thread
	last  [api.MaxThreads]int // of each thread: its last deed
	calls int
}

func (h *history) begins(thread int, op api.Op) {
	h.calls++
	h.last[thread] = len(h.deeds)
	h.deeds = append(h.deeds, deed{op: op, began: h.calls})
	h.whose = append(h.whose, thread)
}

func (h *history) ends(thread int, result api.Result) {
	h.calls++
	d := &h.deeds[h.last[thread]]
	d.ended, d.result = h.calls, result
}

// text tells, thread by thread, what was answered to each deed and how many deeds of each thread were done before it began: all that P11 hangs on.
func (h *history) text() string {
	text := ""
	for thread := range h.last {
		for n, d := range h.deeds {
			if h.whose[n] == thread {
				text += fmt.Sprint(d.result, h.doneBefore(d.began))
			}
		}
	}
	return text
}

func (h *history) doneBefore(call int) [api.MaxThreads]int {
	var done [api.MaxThreads]int
	for n, d := range h.deeds {
		if d.ended != 0 && d.ended < call {
			done[h.whose[n]]++
		}
	}
	return done
}

// answer is what a plain map says to op if its key has value (0: it has none), and which value it has then.
func answer(op api.Op, value int) (api.Result, int) {
	result := api.Result{Done: true, Found: value != 0, Value: value}
	switch {
	case op.Kind == api.Store:
		return found(op.Value), op.Value
	case op.Kind == api.Delete:
		return result, 0
	case op.Kind == api.Replace && value == op.Old:
		return result, op.Value
	case op.Kind == api.Replace:
		return nothing, value
	}
	return result, value
}

// hasOrder goes key by key: if there is an order of each key's deeds there is one of all of them.
func (h *history) hasOrder() bool {
	for key, value := range h.start {
		o := ordering{tried: map[standing]bool{}}
		for _, d := range h.deeds {
			if d.op.Key == key {
				o.deeds = append(o.deeds, d)
			}
		}
		if !o.canGoOn(standing{value: value}) {
			return false
		}
	}
	return true
}

// ordering seeks an order of the deeds of one key, at most 64.
type ordering struct {
	deeds []deed
	tried map[standing]bool // from where there is no order of the rest
}

// standing: which deeds have their place, a bit for each, and which value the key has behind them.
type standing struct {
	placed uint64
	value  int
}

func (o *ordering) canGoOn(s standing) bool {
	if o.isEnough(s.placed) {
		return true
	}
	if o.tried[s] {
		return false
	}
	for n, d := range o.deeds {
		if s.placed>>n&1 == 1 || o.mustWait(d, s.placed) {
			continue
		}
		result, value := answer(d.op, s.value)
		if d.ended != 0 && d.result != result {
			continue
		}
		if o.canGoOn(standing{s.placed | 1<<n, value}) {
			return true
		}
	}
	o.tried[s] = true
	return false
}

// isEnough tells whether only deeds that are not done have no place.
func (o *ordering) isEnough(placed uint64) bool {
	for n, d := range o.deeds {
		if placed>>n&1 == 0 && d.ended != 0 {
			return false
		}
	}
	return true
}

// mustWait tells whether a deed that has no place yet was done before d began.
func (o *ordering) mustWait(d deed, placed uint64) bool {
	for n, other := range o.deeds {
		if placed>>n&1 == 0 && other.ended != 0 && other.ended < d.began {
			return true
		}
	}
	return false
}

// What a plain map could not have answered must be seen to be so, else the tests of P11 are worth nothing.
func TestP11HistoriesThatHaveNoOrder(t *testing.T) {
	for name, h := range map[string]history{
		"a value out of nowhere":      {deeds: []deed{{load(3), 1, 2, found(5)}}},
		"a value under another key":   {deeds: []deed{{store(3, 5), 1, 2, found(5)}, {load(4), 3, 4, found(5)}}},
		"a Store that was lost":       {deeds: []deed{{store(3, 5), 1, 2, found(5)}, {load(3), 3, 4, nothing}}},
		"a Store that tells another":  {deeds: []deed{{store(3, 5), 1, 2, found(6)}}},
		"a start that was lost":       {start: [api.Keys]int{3: 5}, deeds: []deed{{load(3), 1, 2, nothing}}},
		"a Delete that did nothing":   {deeds: []deed{{store(3, 5), 1, 2, found(5)}, {remove(3), 3, 4, found(5)}, {load(3), 5, 6, found(5)}}},
		"two that deleted one":        {deeds: []deed{{store(3, 5), 1, 2, found(5)}, {remove(3), 3, 5, found(5)}, {remove(3), 4, 6, found(5)}}},
		"two that replaced one":       {deeds: []deed{{store(3, 5), 1, 2, found(5)}, {replace(3, 5, 6), 3, 5, found(5)}, {replace(3, 5, 7), 4, 6, found(5)}}},
		"a Replace that found not":    {deeds: []deed{{store(3, 5), 1, 2, found(5)}, {replace(3, 5, 6), 3, 4, nothing}}},
		"a Replace that found wrong":  {deeds: []deed{{store(3, 5), 1, 2, found(5)}, {replace(3, 4, 6), 3, 4, found(4)}}},
		"a Replace that did not":      {deeds: []deed{{store(3, 5), 1, 2, found(5)}, {replace(3, 5, 6), 3, 4, found(5)}, {load(3), 5, 6, found(5)}}},
		"a Load that looks back":      {deeds: []deed{{store(3, 5), 1, 6, found(5)}, {load(3), 2, 3, found(5)}, {load(3), 4, 5, nothing}}},
		"one not done, and undone":    {deeds: []deed{{op: store(3, 5), began: 1}, {load(3), 2, 3, found(5)}, {load(3), 4, 5, nothing}}},
		"one that began afterwards":   {deeds: []deed{{load(3), 1, 2, found(5)}, {op: store(3, 5), began: 3}}},
		"two orders that do not meet": {deeds: []deed{{store(3, 5), 1, 9, found(5)}, {store(3, 6), 2, 10, found(6)}, {load(3), 3, 4, found(5)}, {load(3), 5, 6, found(6)}, {load(3), 7, 8, found(5)}}},
	} {
		if h.hasOrder() {
			t.Errorf("P11: %s was not seen", name)
		}
	}
}

func TestP11HistoriesThatHaveAnOrder(t *testing.T) {
	for name, h := range map[string]history{
		"nothing":                     {},
		"one by one":                  {deeds: []deed{{store(3, 5), 1, 2, found(5)}, {load(3), 3, 4, found(5)}, {replace(3, 5, 6), 5, 6, found(5)}, {replace(3, 5, 7), 7, 8, nothing}, {remove(3), 9, 10, found(6)}, {remove(3), 11, 12, nothing}}},
		"a start that is found":       {start: [api.Keys]int{3: 5}, deeds: []deed{{load(3), 1, 2, found(5)}, {load(4), 3, 4, nothing}}},
		"a Load ahead of a Store":     {deeds: []deed{{store(3, 5), 1, 3, found(5)}, {load(3), 2, 4, nothing}}},
		"one not done, and left out":  {deeds: []deed{{op: store(3, 5), began: 1}, {load(3), 2, 3, nothing}}},
		"one not done, and not left":  {deeds: []deed{{op: store(3, 5), began: 1}, {load(3), 2, 3, nothing}, {load(3), 4, 5, found(5)}}},
		"one not done that was found": {deeds: []deed{{store(3, 5), 1, 2, found(5)}, {op: remove(3), began: 3}, {load(3), 4, 5, nothing}}},
		"the last begun is the first": {deeds: []deed{{load(3), 1, 9, found(7)}, {store(3, 5), 2, 8, found(5)}, {store(3, 7), 3, 7, found(7)}, {load(3), 10, 11, found(5)}}},
	} {
		if !h.hasOrder() {
			t.Errorf("P11: %s was taken for what can't be", name)
		}
	}
}
