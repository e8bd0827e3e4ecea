package injector_test

import (
	"fmt"
	"math"
	"slices"
	"testing"

	"worksteal/api"
	"worksteal/config"
	"worksteal/injector"
	"worksteal/machine"
	"worksteal/memory"
	"worksteal/steptest"
)

// Contents of cells at the limits: the greatest one, and 2^63, which is the least int.
const (
	top  = math.MaxUint64
	half = 1 << 63
)

// The cells of the injector, as chapter 6 counts the cells: behind the number of tasks that were asked for and the lock.
const (
	lockCell    = 1
	sizeCell    = 2
	arrivalCell = 3
	firstSlot   = 4
)

// slot returns the cell of a slot that exists.
func slot(i int) int { return firstSlot + i }

// A step is what a step of a machine must do. The tables of ways are written with these short names.
type step = steptest.Step

var (
	load  = steptest.Load
	store = steptest.Store
	add   = steptest.Add
	none  = steptest.None()
)

// old is what a slot contains that no key was put into by a test.
const old = 77

// key returns the key of three numbers, which are in their limits.
func key(deadline, arrival, task uint64) uint64 { return deadline<<40 + arrival<<16 + task }

// sized returns a configuration whose injector has room for some keys.
func sized(heap int) api.Config {
	c := config.Decode(nil)
	c.Workers, c.Levels, c.Classes, c.Tasks, c.Heap = 2, 3, 2, 5, heap
	return c
}

// room returns an environment whose injector has room for some keys: the lock is held, Size and Arrival contain numbers, and the first slots contain keys. All other cells contain something else.
func room(heap int, size, arrival uint64, slots ...uint64) *machine.Env {
	e := steptest.Made(sized(heap))
	for cell := range e.Memory.Size() {
		e.Memory.Store(cell, uint64(1000+cell))
	}
	for i := range heap {
		e.Memory.Store(slot(i), old)
	}
	e.Memory.Store(lockCell, 2)
	e.Memory.Store(sizeCell, size)
	e.Memory.Store(arrivalCell, arrival)
	for i, v := range slots {
		e.Memory.Store(slot(i), v)
	}
	return e
}

// claims returns an environment with the slots and contents of another one whose configuration says that there is room for some other number of keys.
func claims(heap int, e *machine.Env) *machine.Env {
	e.Config.Heap = heap
	return e
}

// one returns a step as a list.
func one(s step) []step { return []step{s} }

// join returns lists of steps as one.
func join(l ...[]step) []step { return slices.Concat(l...) }

// inserts returns the way of an Insert.
func inserts(what string, e *machine.Env, deadline, task, code int, steps ...[]step) steptest.Way {
	return steptest.Way{
		What: fmt.Sprintf("Insert(%d, %d), %s", deadline, task, what), Env: e, Steps: join(steps...), Code: code,
		Make: func() machine.Machine { return injector.Insert(deadline, task) },
	}
}

// removes returns the way of a Remove that gets a task.
func removes(what string, e *machine.Env, worker, task int, steps ...[]step) steptest.Way {
	return steptest.Way{
		What: fmt.Sprintf("Remove(%d), %s", worker, what), Env: e, Steps: join(steps...), Code: api.Got, Value: task,
		Make: func() machine.Machine { return injector.Remove(worker) },
	}
}

// removesNone returns the way of a Remove that finds no task.
func removesNone(what string, e *machine.Env, steps ...[]step) steptest.Way {
	w := removes(what, e, 1, 0, steps...)
	w.Code = api.Empty
	return w
}

// removed returns the event of a Remove.
func removed(worker, task int) api.Event {
	return api.Event{Kind: api.EvRemove, Worker: worker, Task: task}
}

// most is more steps than an Insert or a Remove makes in any injector.
const most = 1000

// run lets a machine perform its steps, and reports an error if their number or its result is not as it must be.
func run(t *testing.T, what string, e *machine.Env, x machine.Machine, steps, code, value int) {
	t.Helper()
	if n, done := machine.Run(e, x, most); n != steps || !done {
		t.Errorf("%s: done is %t after %d steps, want %d steps", what, done, n, steps)
	}
	steptest.CheckResult(t, what, x, code, value)
}

// slotsOf returns the contents of the first slots.
func slotsOf(e *machine.Env, n int) []uint64 { return e.Memory.Cells()[firstSlot : firstSlot+n] }

// The chapter's examples.
func TestExamples(t *testing.T) {
	e := steptest.Made(sized(3))
	run(t, "example 1", e, injector.Insert(9, 4), 4, api.Fine, 0)
	if g := e.Memory.Cells()[:slot(1)]; !slices.Equal(g, []uint64{0, 0, 1, 1, key(9, 0, 4)}) {
		t.Errorf("example 1: the cells are %v", g)
	}
	run(t, "example 2", e, injector.Remove(1), 4, api.Got, 4)
	if g := e.Memory.Peek(sizeCell); g != 0 {
		t.Errorf("example 2: the size is %d", g)
	}
	if g := e.Events[1:]; !slices.Equal(g, []api.Event{removed(1, 4)}) {
		t.Errorf("example 2: the events are %v", g)
	}
}

// Example 4 of the document: of two submissions with the deadlines 9 and 4, the second one is removed first.
func TestDeadlinesFirst(t *testing.T) {
	e := steptest.Made(sized(3))
	run(t, "the deadline 9", e, injector.Insert(9, 0), 4, api.Fine, 0)
	run(t, "the deadline 4", e, injector.Insert(4, 1), 6, api.Fine, 0)
	run(t, "the first Remove", e, injector.Remove(0), 5, api.Got, 1)
	run(t, "the second Remove", e, injector.Remove(0), 4, api.Got, 0)
	run(t, "the third Remove", e, injector.Remove(0), 1, api.Empty, 0)
}

// The copy of a machine before its first step, between any two and behind its end continues independently, whichever goes on first.
func TestCopies(t *testing.T) {
	steptest.CheckCopies(t, slices.Concat(insertSizes(), insertNumbers(), insertLines(), insertOthers())...)
	steptest.CheckCopies(t, slices.Concat(removeSizes(), removeEvents(), removeLines(), removeOthers())...)
	for _, path := range [][]int{{0}, {6, 2, 0}, {63, 31, 15, 7, 3, 1, 0}} {
		steptest.CheckCopies(t, rises(path)...)
	}
	for _, path := range [][]int{{0, 2, 5}, {0, 1, 3, 7, 15, 31}} {
		steptest.CheckCopies(t, sinks(path, path[len(path)-1]+2)...)
	}
}

// An Insert and its copies go different ways, step by step in turn, if their memories differ.
func TestCopiesOfInsert(t *testing.T) {
	e, x := room(8, 3, 6, 20<<40, 30<<40, 40<<40), injector.Insert(5, 7)
	k := key(5, 6, 7)
	steptest.CheckStep(t, "line 1", e, x, load(sizeCell, 3), false)
	f, y := e.Copy(), x.Copy()
	steptest.CheckStep(t, "line 2 of the copy", f, y, add(arrivalCell, api.MaxArrival+1, api.MaxArrival+2).After(arrivalCell, api.MaxArrival+1), true)
	steptest.CheckStep(t, "line 2 of the original", e, x, add(arrivalCell, 6, 7), false)
	steptest.CheckStep(t, "line 3 of the original", e, x, load(slot(1), 30<<40), false)
	g, z := e.Copy(), x.Copy()
	steptest.CheckStep(t, "line 4 of the original", e, x, store(slot(3), old, 30<<40), false)
	steptest.CheckStep(t, "line 4 of the second copy", g, z, store(slot(3), 8, 30<<40).After(slot(3), 8), false)
	steptest.CheckStep(t, "line 3 of the second copy", g, z, load(slot(0), k).After(slot(0), k), false)
	steptest.CheckStep(t, "line 3 of the original", e, x, load(slot(0), 20<<40), false)
	steptest.CheckStep(t, "line 5 of the second copy", g, z, store(slot(1), 30<<40, k), false)
	steptest.CheckStep(t, "line 4 of the original", e, x, store(slot(1), 30<<40, 20<<40), false)
	steptest.CheckStep(t, "line 6 of the second copy", g, z, store(sizeCell, 3, 4), true)
	steptest.CheckResult(t, "the original while its copies are done", x, 0, 0)
	steptest.CheckStep(t, "line 5 of the original", e, x, store(slot(0), 20<<40, k), false)
	steptest.CheckStep(t, "line 6 of the original", e, x, store(sizeCell, 3, 4), true)
	steptest.CheckResult(t, "the original", x, api.Fine, 0)
	steptest.CheckResult(t, "the copy", y, api.Abort, 0)
	steptest.CheckResult(t, "the second copy", z, api.Fine, 0)
}

// A Remove and its copies go different ways as well.
func TestCopiesOfRemove(t *testing.T) {
	e, x := room(8, 5, 6, 9, 20, 30, 40, 50), injector.Remove(1)
	steptest.CheckStep(t, "line 1", e, x, load(sizeCell, 5), false)
	f, y := e.Copy(), x.Copy()
	steptest.CheckStep(t, "line 2 of the copy", f, y, load(slot(0), 8).After(slot(0), 8), false)
	steptest.CheckStep(t, "line 2 of the original", e, x, load(slot(0), 9), false)
	steptest.CheckStep(t, "line 3 of the copy", f, y, load(slot(4), 15).After(slot(4), 15), false)
	steptest.CheckStep(t, "line 3 of the original", e, x, load(slot(4), 50), false)
	steptest.CheckStep(t, "line 4 of the copy", f, y, store(sizeCell, 5, 4).Emits(removed(1, 8)), false)
	steptest.CheckStep(t, "line 4 of the original", e, x, store(sizeCell, 5, 4).Emits(removed(1, 9)), false)
	steptest.CheckStep(t, "line 5 of the original", e, x, load(slot(1), 20), false)
	g, z := e.Copy(), x.Copy()
	steptest.CheckStep(t, "line 6 of the second copy", g, z, load(slot(2), 19).After(slot(2), 19), false)
	steptest.CheckStep(t, "line 6 of the original", e, x, load(slot(2), 30), false)
	steptest.CheckStep(t, "line 7 of the second copy", g, z, store(slot(0), 9, 19), false)
	steptest.CheckStep(t, "line 7 of the original", e, x, store(slot(0), 9, 20), false)
	steptest.CheckStep(t, "line 8 of the second copy", g, z, store(slot(2), 19, 50), true)
	steptest.CheckStep(t, "line 5 of the original", e, x, load(slot(3), 40), false)
	steptest.CheckStep(t, "line 7 of the original", e, x, store(slot(1), 20, 40), false)
	for _, s := range []step{load(slot(1), 20), load(slot(2), 30)} {
		steptest.CheckStep(t, "lines 5 and 6 of the copy", f, y, s, false)
	}
	steptest.CheckStep(t, "line 8 of the copy", f, y, store(slot(0), 8, 15), true)
	steptest.CheckResult(t, "the original while its copies are done", x, 0, 0)
	steptest.CheckStep(t, "line 8 of the original", e, x, store(slot(3), 40, 50), true)
	steptest.CheckResult(t, "the original", x, api.Got, 9)
	steptest.CheckResult(t, "the copy", y, api.Got, 8)
	steptest.CheckResult(t, "the second copy", z, api.Got, 9)
}

// R6: an Insert that is given to other environments keeps what it has loaded, and accesses their cells. Heap is that of the environment of line 1.
func TestInsertElsewhere(t *testing.T) {
	x := injector.Insert(5, 7)
	k := key(5, 6, 7)
	steptest.CheckStep(t, "line 1, of 64 slots", room(64, 63, 1), x, load(sizeCell, 63), false)
	steptest.CheckStep(t, "line 2, of 8 slots", room(8, 2, 6), x, add(arrivalCell, 6, 7), false)
	y := x.Copy()
	steptest.CheckStep(t, "line 3", room(64, 0, 9, slices.Repeat([]uint64{top}, 64)...), x, load(slot(31), top), false)
	steptest.CheckStep(t, "line 4, of 8 slots", room(8, 2, 6), x, none, false)
	steptest.CheckStep(t, "line 3, of 64 slots", room(64, 0, 9, slices.Repeat([]uint64{k + 1}, 64)...), x, load(slot(15), k+1), false)
	steptest.CheckStep(t, "line 4, of 64 slots", room(64, 0, 9), x, store(slot(31), old, k+1), false)
	steptest.CheckStep(t, "line 3, of 7 slots", room(7, 0, 9), x, none, false)
	steptest.CheckStep(t, "line 5, of 64 slots", room(64, 0, 9), x, store(slot(15), old, k), false)
	steptest.CheckStep(t, "line 6, of one slot", room(1, 5, 9), x, store(sizeCell, 5, 64), true)
	steptest.CheckStep(t, "when it is done", room(8, 2, 6), x, none, true)
	steptest.CheckResult(t, "the original", x, api.Fine, 0)
	// 0 is the contents of a place that no slot has, and never greater than a key.
	steptest.CheckStep(t, "line 3 of the copy, of 8 slots", room(8, 2, 6), y, none, false)
	steptest.CheckStep(t, "line 5 of the copy, of 8 slots", room(8, 2, 6), y, none, false)
	steptest.CheckStep(t, "line 6 of the copy", room(8, 2, 6), y, store(sizeCell, 2, 64), true)
	steptest.CheckResult(t, "the copy", y, api.Fine, 0)
}

// R6: the same for a Remove. Places that no slot has contain 0, which is less than the last key and not less than itself, so that this key moves on to the end.
func TestRemoveElsewhere(t *testing.T) {
	x := injector.Remove(7)
	steptest.CheckStep(t, "line 1, of 64 slots", room(64, 64, 1), x, load(sizeCell, 64), false)
	steptest.CheckStep(t, "line 2, of one slot", room(1, 0, 1, key(1, 2, 3)), x, load(slot(0), key(1, 2, 3)), false)
	steptest.CheckStep(t, "line 3, of 64 slots", room(64, 0, 1), x, load(slot(63), old), false)
	e := room(1, 9, 1)
	steptest.CheckStep(t, "line 4, of one slot", e, x, store(sizeCell, 9, 63).Emits(removed(7, 3)), false)
	y := x.Copy()
	steptest.CheckStep(t, "line 5, of one slot", e, x, none, false)
	steptest.CheckStep(t, "line 6, of one slot", e, x, none, false)
	steptest.CheckStep(t, "line 7, of one slot", e, x, store(slot(0), old, 0), false)
	for i := range 4 * 3 {
		steptest.CheckStep(t, fmt.Sprintf("lines 5 to 7 without slots, step %d", i), e, x, none, false)
	}
	steptest.CheckStep(t, "line 8, of 64 slots", room(64, 64, 1), x, store(slot(31), old, old), true)
	steptest.CheckStep(t, "when it is done", room(8, 2, 6), x, none, true)
	steptest.CheckResult(t, "the original", x, api.Got, 3)
	// The copy finds keys in the other environments, of which the one that it has chosen stays chosen.
	steptest.CheckStep(t, "line 5 of the copy", room(8, 0, 1, 9, 50), y, load(slot(1), 50), false)
	steptest.CheckStep(t, "line 6 of the copy", room(8, 0, 1, 9, 40, 60), y, load(slot(2), 60), false)
	steptest.CheckStep(t, "line 7 of the copy", room(8, 0, 1, 9, 30, 20), y, store(slot(0), 9, 50), false)
	steptest.CheckStep(t, "line 5 of the copy, again", room(8, 0, 1, 9, 30, 20, 90), y, load(slot(3), 90), false)
	steptest.CheckStep(t, "line 6 of the copy, again", room(8, 0, 1, 9, 30, 20, 10, 76), y, load(slot(4), 76), false)
	steptest.CheckStep(t, "line 7 of the copy, without this slot", room(1, 0, 1), y, none, false)
	steptest.CheckStep(t, "line 5 of the copy, at place 9", room(64, 0, 1), y, load(slot(9), old), false)
	steptest.CheckStep(t, "line 6 of the copy, at place 10", room(64, 0, 1), y, load(slot(10), old), false)
	steptest.CheckStep(t, "line 8 of the copy", room(8, 0, 1), y, store(slot(4), old, old), true)
	steptest.CheckResult(t, "the copy", y, api.Got, 3)
}

// short returns an environment for a configuration whose memory has less cells, the last of which contains a number.
func short(heap, cells int, v uint64) *machine.Env {
	e := steptest.Made(sized(heap))
	e.Memory = memory.New(cells)
	e.Memory.Store(cells-1, v)
	return e
}

// Chapter 2: where the memory has no such cell, each line is a step without an access, and what it loads is 0.
func TestNoCell(t *testing.T) {
	k := key(5, 0, 7)
	nothing := func(n int) []step { return slices.Repeat(one(none), n) }
	emits := func(task int) step { return store(sizeCell, 1, 0).Emits(removed(1, task)) }
	steptest.Check(t,
		inserts("no cell", short(3, 0, 0), 5, 7, api.Fine, nothing(4)),
		inserts("no cell, without a key", short(3, 0, 0), 5, -7, api.Abort, nothing(2)),
		inserts("no cell, without room", claims(0, short(3, 0, 0)), 5, 7, api.Full, nothing(1)),
		inserts("no Size", short(3, 2, 9), 5, 7, api.Fine, nothing(4)),
		inserts("Size alone", short(3, 3, 2), 5, 7, api.Fine, one(load(sizeCell, 2)), nothing(3), one(store(sizeCell, 2, 3))),
		inserts("Size alone, full", short(3, 3, 3), 5, 7, api.Full, one(load(sizeCell, 3))),
		inserts("no slot", short(3, 4, 0), 5, 7, api.Fine, []step{load(sizeCell, 0), add(arrivalCell, 0, 1), none, store(sizeCell, 0, 1)}),
		inserts("one slot", short(3, 5, k+1), 5, 7, api.Fine, []step{load(sizeCell, 2).After(sizeCell, 2), add(arrivalCell, 0, 1), load(slot(0), k+1), none, store(slot(0), k+1, k), store(sizeCell, 2, 3)}),

		removesNone("no cell", short(3, 0, 0), nothing(1)),
		removesNone("no Size", short(3, 2, 9), nothing(1)),
		removes("Size alone, which is 1", short(3, 3, 1), 1, 0, []step{load(sizeCell, 1), none, none, emits(0)}),
		removes("Size alone, which is 3", short(3, 3, 3), 1, 0, []step{load(sizeCell, 3), none, none, store(sizeCell, 3, 2).Emits(removed(1, 0)), none, none}),
		removes("no slot", short(3, 4, 0), 1, 0, []step{load(sizeCell, 1).After(sizeCell, 1), none, none, emits(0)}),
		removes("one slot, one key", short(3, 5, 9), 1, 9, []step{load(sizeCell, 1).After(sizeCell, 1), load(slot(0), 9), load(slot(0), 9), emits(9)}),
		removes("one slot, three keys", short(3, 5, 9), 1, 9, []step{load(sizeCell, 3).After(sizeCell, 3), load(slot(0), 9), none, store(sizeCell, 3, 2).Emits(removed(1, 9)), none, store(slot(0), 9, 0)}),
	)
}

// A bare environment has no slots, and its configuration has no room for a key.
func TestBare(t *testing.T) {
	bare := func(size uint64) *machine.Env { return steptest.Filled([]uint64{0, 2, size, 6, old}) }
	steptest.Check(t,
		inserts("bare and empty", bare(0), 5, 7, api.Full, one(load(sizeCell, 0))),
		inserts("bare, a negative size", bare(top), 5, 7, api.Fine, []step{load(sizeCell, top), add(arrivalCell, 6, 7), none, store(sizeCell, top, 0)}),
		removesNone("bare and empty", bare(0), one(load(sizeCell, 0))),
		removes("bare, one key", bare(1), 1, 0, []step{load(sizeCell, 1), none, none, store(sizeCell, 1, 0).Emits(removed(1, 0))}),
		removes("bare, four keys", bare(4), 1, 0, []step{load(sizeCell, 4), none, none, store(sizeCell, 4, 3).Emits(removed(1, 0)), none, none, none}),
	)
}

// numbers returns arguments of all kinds.
func numbers() []int {
	return []int{math.MinInt, math.MinInt + 1, -1 << 32, -2, -1, 0, 1, 2, 255, 65535, 65536, api.MaxDeadline, api.MaxDeadline + 1, 1 << 32, math.MaxInt - 1, math.MaxInt}
}

// R1, R2 and R6: every argument is accepted, machines of equal calls behave equally, and each comes to an end.
func TestEqualCalls(t *testing.T) {
	for _, heap := range []int{1, 2, 7, 64} {
		e := room(heap, 0, 0)
		f := e.Copy()
		for i, a := range numbers() {
			for _, b := range numbers() {
				what := fmt.Sprintf("room for %d, (%d, %d)", heap, a, b)
				steptest.CheckEqual(t, "Insert, "+what, e, f, injector.Insert(a, b), injector.Insert(a, b))
				steptest.CheckEqual(t, "Insert that has a key, "+what, e, f, injector.Insert(i*b&0xffff, 3), injector.Insert(i*b&0xffff, 3))
				if n := int(e.Memory.Peek(sizeCell)); n > heap/2 {
					task := int(e.Memory.Peek(slot(0)) % 65536)
					steptest.CheckEqual(t, "Remove, "+what, e, f, injector.Remove(a), injector.Remove(a), removed(a, task))
				}
			}
		}
		for _, worker := range numbers() {
			var events []api.Event
			if e.Memory.Peek(sizeCell) > 0 {
				events = append(events, removed(worker, int(e.Memory.Peek(slot(0))%65536)))
			}
			steptest.CheckEqual(t, "Remove", e, f, injector.Remove(worker), injector.Remove(worker), events...)
		}
	}
}
