package injector_test

import (
	"fmt"
	"slices"
	"testing"

	"worksteal/api"
	"worksteal/edf"
	"worksteal/injector"
	"worksteal/machine"
	"worksteal/steptest"
)

// level returns how many parents a place has above it.
func level(place int) int {
	n := 0
	for place++; place > 1; place /= 2 {
		n++
	}
	return n
}

// insertSteps returns how many steps an Insert makes whose key comes to a place behind so many keys: four, two for each place that it moves by, and one for the look at a parent that stays.
func insertSteps(keys, place int) int {
	steps := 4 + 2*(level(keys)-level(place))
	if place > 0 {
		steps++
	}
	return steps
}

// removeSteps returns how many steps a Remove makes behind which so many keys remain, the last of which has come to a place: four, the looks at all children of the places on the path, a move between two of them, and the last line.
func removeSteps(keys, place int) int {
	if keys == 0 {
		return 4
	}
	steps := 5 + level(place)
	for i := place; ; i = (i - 1) / 2 {
		steps += max(0, min(2, keys-(2*i+1)))
		if i == 0 {
			return steps
		}
	}
}

// A queue is what an injector without other machines contains: the keys as a heap of layer 14, all of which are different, and the next arrival number.
type queue struct {
	heap    int
	keys    []uint64
	arrival uint64
	// taken are the keys that were removed since the last insertion.
	taken []uint64
}

// insert inserts a task, and returns how many steps that takes, and the code.
func (q *queue) insert(deadline, task int) (steps, code int) {
	if len(q.keys) == q.heap {
		return 1, api.Full
	}
	q.arrival++
	if deadline < 0 || task < 0 {
		return 2, api.Abort
	}
	k := key(uint64(deadline), q.arrival-1, uint64(task))
	n := len(q.keys)
	q.keys, q.taken = edf.Push(q.keys, k), nil
	return insertSteps(n, slices.Index(q.keys, k)), api.Fine
}

// remove removes a task, and returns how many steps that takes, the code and the task.
func (q *queue) remove() (steps, code, task int) {
	k, rest, ok := edf.Pop(q.keys)
	if !ok {
		return 1, api.Empty, 0
	}
	y := q.keys[len(q.keys)-1]
	q.keys, q.taken = rest, append(q.taken, k)
	return removeSteps(len(rest), max(0, slices.Index(rest, y))), api.Got, int(k % 65536)
}

// check reports an error if an environment does not contain the queue, or if any other cell but the slots has changed since before.
func (q *queue) check(t *testing.T, what string, e, before *machine.Env) {
	t.Helper()
	cells, want := e.Memory.Cells(), before.Memory.Cells()
	want[sizeCell], want[arrivalCell] = uint64(len(q.keys)), q.arrival
	copy(want[firstSlot:], q.keys)
	copy(want[firstSlot+len(q.keys):firstSlot+q.heap], cells[firstSlot+len(q.keys):])
	if !slices.Equal(cells, want) {
		t.Fatalf("%s: the cells are %v, want %v", what, cells, want)
	}
	if !edf.Valid(q.keys) || !slices.IsSorted(q.taken) {
		t.Fatalf("%s: the keys are %v, those that were removed are %v", what, q.keys, q.taken)
	}
}

// play performs an insertion or a removal without other machines, as it happens, and returns its code.
func (q *queue) play(t *testing.T, e *machine.Env, some func(n int) int, inserting int) int {
	t.Helper()
	if some(5) < inserting {
		deadline, task := some(6)-some(8)/7, some(300)-some(30)/29*300
		what := fmt.Sprintf("Insert(%d, %d) behind %d keys", deadline, task, len(q.keys))
		steps, code := q.insert(deadline, task)
		run(t, what, e, injector.Insert(deadline, task), steps, code, 0)
		return code
	}
	what := fmt.Sprintf("Remove of %d keys", len(q.keys))
	worker, events := some(4), slices.Clone(e.Events)
	steps, code, task := q.remove()
	run(t, what, e, injector.Remove(worker), steps, code, task)
	if code == api.Got {
		events = append(events, removed(worker, task))
	}
	if !slices.Equal(e.Events, events) {
		t.Fatalf("%s: the last of %d events is %v, want %d", what, len(e.Events), e.Events[len(e.Events)-1], len(events))
	}
	return code
}

// The consequence of P16.1 and P16.2: long lists of insertions and removals without other machines leave in the slots what edf.Push and edf.Pop leave in a list. An Insert is done with Full exactly if there are Heap keys, and a Remove with Empty exactly if there is none; keys that are removed one after another ascend, and the arrival numbers are given out one after another.
func TestAlone(t *testing.T) {
	for _, heap := range []int{1, 2, 3, 4, 6, 7, 8, 15, 31, 33, 64} {
		some := steptest.Mixed(uint64(heap))
		q := &queue{heap: heap, arrival: 3}
		e := room(heap, 0, q.arrival)
		before := e.Copy()
		codes := map[int]int{}
		inserting := 3
		for i := range 4000 {
			// Times of more insertions and times of more removals follow one another, so that the injector becomes full and empty.
			if i%200 == 0 {
				inserting = 1 + some(4)
			}
			codes[q.play(t, e, some, inserting)]++
			q.check(t, fmt.Sprintf("room for %d, call %d", heap, i), e, before)
			if len(e.Events) > 99 {
				e.Events = e.Events[:1]
			}
		}
		for _, code := range []int{api.Fine, api.Abort, api.Full, api.Got, api.Empty} {
			if codes[code] < 10 {
				t.Errorf("room for %d: only %d machines were done with the code %d", heap, codes[code], code)
			}
		}
	}
}

// The consequence at the last arrival numbers: behind them each Insert is done with Abort, and each Remove goes on.
func TestLastArrivals(t *testing.T) {
	const begin = api.MaxArrival - 4
	e := room(64, 0, begin)
	for i := range 9 {
		if i < 5 {
			run(t, "Insert", e, injector.Insert(9, i), insertSteps(i, i), api.Fine, 0)
		} else {
			run(t, "Insert without a number", e, injector.Insert(0, i), 2, api.Abort, 0)
		}
		if g := e.Memory.Peek(arrivalCell); g != begin+uint64(i)+1 {
			t.Errorf("Insert number %d: Arrival contains %d", i, g)
		}
	}
	for i := range 5 {
		x := injector.Remove(0)
		machine.Run(e, x, most)
		steptest.CheckResult(t, "Remove", x, api.Got, i)
	}
	run(t, "Remove of nothing", e, injector.Remove(0), 1, api.Empty, 0)
}

// checkSlots reports an error if an Insert of k and a Remove do not change slots as edf.Push and edf.Pop change a list.
func checkSlots(t *testing.T, slots []uint64) {
	t.Helper()
	n := len(slots)
	e := room(n+1, uint64(n), 6, slots...)
	f := e.Copy()
	x := injector.Insert(5, 7)
	if machine.Run(e, x, most); !slices.Equal(slotsOf(e, n+1), edf.Push(slots, k)) || e.Memory.Peek(sizeCell) != uint64(n)+1 {
		t.Errorf("Insert into %v leaves %v and Size %d, want %v", slots, slotsOf(e, n+1), e.Memory.Peek(sizeCell), edf.Push(slots, k))
	}
	steptest.CheckResult(t, "Insert", x, api.Fine, 0)
	first, rest, ok := edf.Pop(slots)
	if !ok {
		return
	}
	y := injector.Remove(1)
	if machine.Run(f, y, most); !slices.Equal(slotsOf(f, n-1), rest) || f.Memory.Peek(sizeCell) != uint64(n)-1 {
		t.Errorf("Remove from %v leaves %v and Size %d, want %v", slots, slotsOf(f, n-1), f.Memory.Peek(sizeCell), rest)
	}
	steptest.CheckResult(t, "Remove", y, api.Got, int(first%65536))
}

// The consequence for all short lists of keys around k, most of which are no heaps.
func TestShortLists(t *testing.T) {
	var extend func(l []uint64, n int)
	extend = func(l []uint64, n int) {
		checkSlots(t, l)
		if len(l) == n {
			return
		}
		for _, x := range keys(0, k-1, k, k+1) {
			extend(append(slices.Clip(l), x), n)
		}
	}
	extend(nil, 7)
}

// The same for lists of all lengths, of few and of many different keys.
func TestLists(t *testing.T) {
	some := steptest.Mixed(9)
	for n := range 64 {
		for range 60 {
			slots := make([]uint64, n)
			spread := []int{2, 5, 1 << 20}[some(3)]
			for i := range slots {
				slots[i] = k - uint64(spread/2) + uint64(some(spread)) + uint64(some(9)/8)<<63
			}
			if some(2) == 0 {
				slices.Sort(slots)
			}
			checkSlots(t, slots)
		}
	}
}

// A recorder performs the lines of the chapter in an environment, while another machine puts something into cells now and then, and keeps what must be done as steps.
type recorder struct {
	e     *machine.Env
	some  func(n int) int
	puts  int
	steps []step
}

// near returns a put that is near to what the cells of the injector contain.
func (r *recorder) near() steptest.Put {
	cell := sizeCell + r.some(2+r.e.Config.Heap)
	v := r.e.Memory.Peek(cell)
	if cell > sizeCell && r.some(4) == 0 {
		v = r.e.Memory.Peek(slot(r.some(r.e.Config.Heap)))
	}
	return steptest.Put{Cell: cell, V: v + uint64(r.some(5)) - 2}
}

// access performs a line, perhaps behind a put, and returns what the access returns.
func (r *recorder) access(perform func(e *machine.Env) uint64) uint64 {
	var s step
	if r.puts > 0 && r.some(3) == 0 {
		r.puts--
		s.Puts = []steptest.Put{r.near()}
		r.e.Memory.Store(s.Puts[0].Cell, s.Puts[0].V)
	}
	count := r.e.Memory.Count()
	v := perform(r.e)
	if r.e.Memory.Count() > count {
		s.Access = r.e.Memory.Last()
	}
	r.steps = append(r.steps, s)
	return v
}

// at returns the cell of a place, or -1.
func (r *recorder) at(place int) int {
	if place < 0 || place >= r.e.Config.Heap {
		return -1
	}
	return slot(place)
}

func (r *recorder) load(cell int) uint64 {
	return r.access(func(e *machine.Env) uint64 { return e.Memory.Load(cell) })
}

func (r *recorder) store(cell int, v uint64) {
	r.access(func(e *machine.Env) uint64 { e.Memory.Store(cell, v); return 0 })
}

// insert performs the lines of P16.1.
func (r *recorder) insert(deadline, task int) int {
	n := int(r.load(sizeCell))
	if n >= r.e.Config.Heap {
		return api.Full
	}
	a := r.access(func(e *machine.Env) uint64 { return e.Memory.Add(arrivalCell, 1) })
	if a > api.MaxArrival || deadline < 0 || deadline > api.MaxDeadline || task < 0 || task > 65535 {
		return api.Abort
	}
	k := key(uint64(deadline), a, uint64(task))
	i := n
	for i > 0 {
		x := r.load(r.at((i - 1) / 2))
		if x <= k {
			break
		}
		r.store(r.at(i), x)
		i = (i - 1) / 2
	}
	r.store(r.at(i), k)
	r.store(sizeCell, uint64(n+1))
	return api.Fine
}

// remove performs the lines of P16.2.
func (r *recorder) remove(worker int) (code, value int) {
	n := int(r.load(sizeCell))
	if n <= 0 {
		return api.Empty, 0
	}
	x := r.load(r.at(0))
	y := r.load(r.at(n - 1))
	task := int(x % 65536)
	r.store(sizeCell, uint64(n-1))
	s := &r.steps[len(r.steps)-1]
	*s = s.Emits(removed(worker, task))
	if n == 1 {
		return api.Got, task
	}
	i := 0
	for 2*i+1 < n-1 {
		c := 2*i + 1
		z := r.load(r.at(c))
		if 2*i+2 < n-1 {
			if u := r.load(r.at(2*i + 2)); u < z {
				c, z = 2*i+2, u
			}
		}
		if z >= y {
			break
		}
		r.store(r.at(i), z)
		i = c
	}
	r.store(r.at(i), y)
	return api.Got, task
}

// recorded returns a way in an environment of some kind, with what the lines of the chapter do there.
func recorded(some func(n int) int) steptest.Way {
	heap := 1 + some(12)
	slots := make([]uint64, heap)
	for i := range slots {
		slots[i] = key(uint64(some(6)), uint64(some(9)), uint64(some(5)))
	}
	if some(2) == 0 {
		slices.Sort(slots)
	}
	e := room(heap, uint64(some(heap+4)-1), []uint64{5, 6, 7, api.MaxArrival, top}[some(5)], slots...)
	r := &recorder{e: e.Copy(), some: some, puts: some(3) * some(6)}
	w := steptest.Way{Env: e}
	if some(2) == 0 {
		deadline, task := some(7)-some(12)/11, some(6)-some(12)/11
		w.What = fmt.Sprintf("Insert(%d, %d)", deadline, task)
		w.Make = func() machine.Machine { return injector.Insert(deadline, task) }
		w.Code = r.insert(deadline, task)
	} else {
		worker := some(20) - 2
		w.What = fmt.Sprintf("Remove(%d)", worker)
		w.Make = func() machine.Machine { return injector.Remove(worker) }
		w.Code, w.Value = r.remove(worker)
	}
	w.Steps = r.steps
	return w
}

// P16.1, P16.2 and R7: machines in environments of all kinds do what the lines of the chapter do that are performed one after another, while another machine puts something into cells now and then. Ways of all lengths that there are occur.
func TestRecorded(t *testing.T) {
	some := steptest.Mixed(5)
	seen := map[string]int{}
	for range 30000 {
		w := recorded(some)
		seen[fmt.Sprint(w.Code, " ", len(w.Steps))]++
		if steptest.Check(t, w); t.Failed() {
			return
		}
	}
	for code, steps := range map[int][]int{
		api.Full: {1}, api.Abort: {2}, api.Fine: {4, 5, 6, 7, 8, 9, 10}, api.Empty: {1}, api.Got: {4, 5, 6, 7, 8, 9, 10, 11, 12, 13, 14},
	} {
		for _, n := range steps {
			if seen[fmt.Sprint(code, " ", n)] < 5 {
				t.Errorf("a way of %d steps to the code %d occurred %d times, so that it was not tested", n, code, seen[fmt.Sprint(code, " ", n)])
			}
		}
	}
}
