package table_test

import (
	"fmt"
	"math"
	"slices"
	"testing"

	"worksteal/api"
	"worksteal/machine"
	"worksteal/memory"
	"worksteal/steptest"
	"worksteal/table"
)

// Contents of cells at the limits: the greatest one, and 2^63, which is the least int.
const (
	top  = math.MaxUint64
	half = 1 << 63
)

// Short names for what a step of a machine must do, for what is put into cells before it, and for the cells of a task.
type (
	step = steptest.Step
	put  = steptest.Put
	row  = steptest.Row
)

var (
	none  = steptest.None()
	load  = steptest.Load
	store = steptest.Store
	cas   = steptest.CAS
	or    = steptest.Or
	add   = steptest.Add
)

// Short names for configurations, their cells, and what they contain.
var (
	sized   = steptest.Sized
	bitsOf  = steptest.BitsOf
	dequeOf = steptest.DequeOf
	rowOf   = steptest.RowOf
	is      = steptest.Is
	has     = steptest.Has
	beside  = steptest.Beside
	looks   = steptest.Looks
)

// sizes returns configurations with few and with many workers, levels, tasks and places, up to the greatest ones.
func sizes() []api.Config {
	return []api.Config{sized(1, 1, 1, 1), sized(1, 2, 2, 3), sized(2, 3, 5, 2), sized(3, 1, 4, 4), sized(16, 64, 3, 1), sized(1, 1, 256, 64)}
}

// next is the cell of the number of tasks that were asked for.
const next = 0

// Most ways are those of task 2 of four tasks, and of worker 1 of two workers with three levels. Its bitmap is bits, and its deques, of two places each, are low, middle and high.
var (
	home              = sized(2, 3, 4, 2)
	bits              = bitsOf(home, 1)
	low, middle, high = dequeOf(home, 1, 0), dequeOf(home, 1, 1), dequeOf(home, 1, 2)
	own               = rowOf(home, 2)
)

// join returns steps, or puts, as one list.
func join[T any](l ...[]T) []T { return slices.Concat(l...) }

// noNumbers returns numbers that are none from 0 to n - 1; some of them become one if they are cut off.
func noNumbers(n int) []int {
	return []int{-1, -2, -n, -256, n, n + 1, 2 * n, 256, 257, 1 << 16, 1 << 32, 1<<32 + 1, 1<<62 + 1, -1 << 32, math.MaxInt - 1, math.MaxInt, math.MinInt, math.MinInt + 1}
}

// record returns a record with numbers of its own in all fields.
func record(i int, started bool) api.Record {
	return api.Record{Prog: i + 1, Parent: i + 2, PC: i + 3, Left: i + 4, Waiting: i + 5, Kids: []int{i + 6, -1}, Started: started}
}

// recorded returns an environment with puts, in which each task has a record of its own; the tasks of the list have started.
func recorded(c api.Config, puts []put, started ...int) *machine.Env {
	e := steptest.Made(c, puts...)
	for i := range e.Records {
		e.Records[i] = record(i, slices.Contains(started, i))
	}
	return e
}

// allocate returns the way of an Allocate, with what Next contains before its step.
func allocate(c api.Config, what string, puts []put, v uint64, code, value int) steptest.Way {
	return steptest.Way{
		What:  fmt.Sprintf("Allocate of %d tasks at %d, %s", c.Tasks, v, what),
		Env:   recorded(c, puts),
		Make:  table.Allocate,
		Steps: []step{add(next, v, v+1)},
		Code:  code,
		Value: value,
	}
}

// P18.1: all numbers of tasks, and any other contents of Next. Some of these become a task if they are cut off.
func allocates(c api.Config) []steptest.Way {
	var l []steptest.Way
	for id := range c.Tasks {
		l = append(l, allocate(c, "a task", is(next, uint64(id)), uint64(id), api.Got, id))
	}
	n := uint64(c.Tasks)
	for _, v := range []uint64{n, n + 1, n + 255, 256, 257, 1 << 16, 1<<32 - 1, 1 << 32, 1<<32 + n - 1, 1 << 62, half - 1, half, half + 1, half + n, top - n, top - 1, top} {
		l = append(l, allocate(c, "no task", is(next, v), v, api.Full, 0))
	}
	return l
}

// P18.1: what other machines put into Next before the line.
func allocateOthers() []steptest.Way {
	// others returns the way of an Allocate before which Next changes from a number to another one.
	others := func(from, to uint64, code, value int) steptest.Way {
		w := allocate(home, fmt.Sprintf("which was %d", from), is(next, from), to, code, value)
		w.Steps[0] = w.Steps[0].After(next, to)
		return w
	}
	return []steptest.Way{others(0, 3, api.Got, 3), others(3, 4, api.Full, 0), others(9, 0, api.Got, 0), others(4, 2, api.Got, 2), others(0, top, api.Full, 0), others(top, 0, api.Got, 0)}
}

func TestAllocate(t *testing.T) {
	for _, c := range sizes() {
		steptest.Check(t, allocates(c)...)
	}
	steptest.Check(t, allocateOthers()...)
}

// P18.1: one after another gets each number of a task in ascending order, and then none, again and again, while Next goes on rising.
func TestAllocateAll(t *testing.T) {
	for _, c := range sizes() {
		e := recorded(c, nil)
		for i := range 3*c.Tasks + 9 {
			code, value := api.Got, i
			if i >= c.Tasks {
				code, value = api.Full, 0
			}
			what, x := fmt.Sprintf("Allocate number %d of %d tasks", i, c.Tasks), table.Allocate()
			steptest.CheckStep(t, what, e, x, add(next, uint64(i), uint64(i)+1), true)
			steptest.CheckResult(t, what, x, code, value)
		}
	}
}

// P18.1: behind the greatest word of Next is 0, which is a task like any other time.
func TestAllocateBehindAll(t *testing.T) {
	e := recorded(home, is(next, top-1))
	for _, w := range []struct {
		v           uint64
		code, value int
	}{{top - 1, api.Full, 0}, {top, api.Full, 0}, {0, api.Got, 0}, {1, api.Got, 1}} {
		what, x := fmt.Sprintf("Allocate at %d", w.v), table.Allocate()
		steptest.CheckStep(t, what, e, x, add(next, w.v, w.v+1), true)
		steptest.CheckResult(t, what, x, w.code, w.value)
	}
}

// publish returns the way of a Publish that is done with Fine.
func publish(c api.Config, what string, puts []put, task, level int, steps ...step) steptest.Way {
	return steptest.Way{
		What:  fmt.Sprintf("Publish(%d, %d) of %d tasks, %s", task, level, c.Tasks, what),
		Env:   recorded(c, puts, task),
		Make:  func() machine.Machine { return table.Publish(task, level) },
		Steps: steps,
		Code:  api.Fine,
	}
}

// publishes returns the steps of a Publish of a task whose cells contain 0, with the word of the level, at the time 1.
func publishes(r row, level uint64) []step {
	return []step{store(r.Level, 0, level), store(r.Since, 0, 1), store(r.State, 0, api.Ready)}
}

// P18.2: what the cells of the task contain before, and what is beside them.
func publishLines() []steptest.Way {
	over := func(state, level, since uint64) []step {
		return []step{store(own.Level, level, 1), store(own.Since, since, 1), store(own.State, state, api.Ready)}
	}
	l := []steptest.Way{
		publish(home, "cells of 0", nil, 2, 1, publishes(own, 1)...),
		publish(home, "cells of other tasks", beside(home, 2), 2, 1, publishes(own, 1)...),
		publish(home, "the cells of a task that was there before", own.Filled(api.Done), 2, 1, over(4, 5, 8)...),
		publish(home, "the greatest words", join(is(own.State, top), is(own.Level, top), is(own.Since, top)), 2, 1, over(top, top, top)...),
		publish(home, "the same words", join(is(own.State, api.Ready), is(own.Level, 1), is(own.Since, 1)), 2, 1, over(1, 1, 1)...),
	}
	for _, state := range states() {
		l = append(l, publish(home, fmt.Sprintf("the state %d", state), is(own.State, state), 2, 1, over(state, 0, 0)...))
	}
	return l
}

// states returns contents of State cells: Ready, the other states, and words that are no state. Some of these become Ready if they are cut off.
func states() []uint64 {
	return []uint64{api.Ready, api.Absent, api.Running, api.Blocked, api.Done, 5, 255, 256, 257, 1<<16 + 1, 1 << 32, 1<<32 + 1, half - 1, half, half + 1, top - 1, top}
}

// P18.2: levels of all kinds, also such that do not exist.
func publishLevels() []steptest.Way {
	var l []steptest.Way
	for _, x := range []struct {
		level int
		v     uint64
	}{{0, 0}, {1, 1}, {2, 2}, {3, 3}, {63, 63}, {64, 64}, {256, 256}, {1 << 32, 1 << 32}, {-1, top}, {-2, top - 1}, {-64, top - 63}, {-1 << 32, top - 1<<32 + 1}, {math.MaxInt, half - 1}, {math.MinInt, half}, {math.MinInt + 1, half + 1}} {
		l = append(l, publish(home, "a level", nil, 2, x.level, publishes(own, x.v)...))
	}
	return l
}

// P18.2: the time of line 2 is stored, and not that of another line.
func publishTimes() []steptest.Way {
	steps := publishes(own, 1)
	at := func(time uint64) step { return store(own.Since, 0, time) }
	return []steptest.Way{
		publish(home, "time goes on before line 1", nil, 2, 1, steps[0].Later(3), at(4), steps[2]),
		publish(home, "time goes on before line 2", nil, 2, 1, steps[0], at(5).Later(4), steps[2]),
		publish(home, "time goes on before line 3", nil, 2, 1, steps[0], steps[1], steps[2].Later(5)),
		publish(home, "time goes on before each line", nil, 2, 1, steps[0].Later(1), at(3).Later(1), steps[2].Later(1)),
		publish(home, "a late time", nil, 2, 1, steps[0], at(70001).Later(70000), steps[2]),
	}
}

// P18.2: what other machines put into cells between the lines.
func publishOthers() []steptest.Way {
	steps := publishes(own, 1)
	return []steptest.Way{
		publish(home, "all cells change before line 1", nil, 2, 1, store(own.Level, 9, 1).After(own.Level, 9).After(own.Since, 8).After(own.State, 7), store(own.Since, 8, 1), store(own.State, 7, api.Ready)),
		publish(home, "the level changes behind line 1", nil, 2, 1, steps[0], steps[1].After(own.Level, 7), steps[2]),
		publish(home, "the time changes before and behind line 2", nil, 2, 1, steps[0], store(own.Since, 6, 1).After(own.Since, 6), steps[2].After(own.Since, 9)),
		publish(home, "the task is ready before line 2", nil, 2, 1, steps[0], steps[1].After(own.State, api.Ready), store(own.State, api.Ready, api.Ready)),
		publish(home, "the task runs before line 3", nil, 2, 1, steps[0], steps[1], store(own.State, api.Running, api.Ready).After(own.State, api.Running)),
	}
}

// P18.2: every task, between others.
func publishAll(c api.Config) []steptest.Way {
	var l []steptest.Way
	for task := range c.Tasks {
		l = append(l, publish(c, "between others", beside(c, task), task, 2, publishes(rowOf(c, task), 2)...))
	}
	return l
}

func TestPublish(t *testing.T) {
	steptest.Check(t, publishLines()...)
	steptest.Check(t, publishLevels()...)
	steptest.Check(t, publishTimes()...)
	steptest.Check(t, publishOthers()...)
	for _, c := range sizes() {
		steptest.Check(t, publishAll(c)...)
	}
}

// nothing returns the way of a machine that is done with its first step, which makes no access, with Abort and 0.
func nothing(c api.Config, what string, begin func() machine.Machine) steptest.Way {
	return steptest.Way{
		What:  fmt.Sprintf("%s of %d tasks, no such task", what, c.Tasks),
		Env:   recorded(c, beside(c), 0),
		Make:  begin,
		Steps: []step{none},
		Code:  api.Abort,
	}
}

// P18.4: Publish and Enter of a number that is not a task. Nothing happens but that they are done.
func noTasks(c api.Config) []steptest.Way {
	var l []steptest.Way
	for _, task := range noNumbers(c.Tasks) {
		// A number that the greatest configuration has is a task there.
		if 0 <= task && task < c.Tasks {
			continue
		}
		for _, n := range []int{0, 1, -1, 64, math.MaxInt, math.MinInt} {
			l = append(l,
				nothing(c, fmt.Sprintf("Publish(%d, %d)", task, n), func() machine.Machine { return table.Publish(task, n) }),
				nothing(c, fmt.Sprintf("Enter(%d, %d)", n, task), func() machine.Machine { return table.Enter(n, task) }),
			)
		}
	}
	return l
}

func TestNoTasks(t *testing.T) {
	for _, c := range sizes() {
		steptest.Check(t, noTasks(c)...)
	}
}

// P18.2 and P18.4: the last number that is a task, and the first one that is not. The configuration of the first step decides.
func TestLastTask(t *testing.T) {
	for _, c := range sizes() {
		steptest.Check(t,
			publish(c, "the last task", nil, c.Tasks-1, 0, publishes(rowOf(c, c.Tasks-1), 0)...),
			nothing(c, "Publish", func() machine.Machine { return table.Publish(c.Tasks, 0) }),
			nothing(c, "Enter", func() machine.Machine { return table.Enter(0, c.Tasks) }),
		)
	}
}

// claim returns the way of a Claim of a worker that is done with its step.
func claim(e *machine.Env, what string, worker, task, code, value int, s step) steptest.Way {
	return steptest.Way{
		What:  fmt.Sprintf("Claim(%d, %d) of %d tasks, %s", worker, task, e.Config.Tasks, what),
		Env:   e,
		Make:  func() machine.Machine { return table.Claim(worker, task) },
		Steps: []step{s},
		Code:  code,
		Value: value,
	}
}

// says returns the step with the event of a kind.
func says(s step, kind, worker, task int) step {
	return s.Emits(api.Event{Kind: kind, Worker: worker, Task: task})
}

// starts returns the step of a Claim of a task that is ready and has not started.
func starts(r row, worker, task int) step {
	return says(cas(r.State, api.Ready, api.Running), api.EvStart, worker, task).Sets(task, record(task, true))
}

// resumes returns the step of a Claim of a task that is ready and has started.
func resumes(r row, worker, task int) step {
	return says(cas(r.State, api.Ready, api.Running), api.EvResume, worker, task)
}

// skips returns the step of a Claim of a task whose state is not Ready.
func skips(r row, state uint64, worker, task int) step {
	return says(cas(r.State, state, state), api.EvSkip, worker, task)
}

// P18.3: states of all kinds, of a task that has started and of one that has not, beside others that have or have not.
func claimStates() []steptest.Way {
	var l []steptest.Way
	ready := is(own.State, api.Ready)
	for _, others := range [][]int{nil, {1}, {3}, {0, 1, 3}} {
		l = append(l,
			claim(recorded(home, ready, others...), "ready", 1, 2, api.Got, 2, starts(own, 1, 2)),
			claim(recorded(home, join(beside(home, 2), ready), others...), "ready beside others", 1, 2, api.Got, 2, starts(own, 1, 2)),
			claim(recorded(home, ready, append(others, 2)...), "ready again", 1, 2, api.Got, 2, resumes(own, 1, 2)),
			claim(recorded(home, join(beside(home, 2), ready), append(others, 2)...), "ready again beside others", 1, 2, api.Got, 2, resumes(own, 1, 2)),
		)
	}
	for _, state := range states()[1:] {
		puts := is(own.State, state)
		l = append(l,
			claim(recorded(home, puts), fmt.Sprintf("the state %d", state), 1, 2, api.Abort, 0, skips(own, state, 1, 2)),
			claim(recorded(home, join(beside(home, 2), puts), 2), fmt.Sprintf("the state %d beside others", state), 1, 2, api.Abort, 0, skips(own, state, 1, 2)),
		)
	}
	return l
}

// P18.3: the records as machine.New makes them, and with the least in them: Started alone decides, and Started alone changes.
func claimRecords() []steptest.Way {
	var l []steptest.Way
	for _, r := range []api.Record{{}, {Parent: -1, Waiting: -1}, {PC: 5}, {Left: 1, Waiting: -1}, {Waiting: 3}, {Kids: []int{0}}, {Prog: 1}} {
		e := recorded(home, is(own.State, api.Ready))
		e.Records[2] = r
		f := e.Copy()
		after := r
		after.Started, f.Records[2].Started = true, true
		l = append(l,
			claim(e, fmt.Sprintf("the record %v", r), 1, 2, api.Got, 2, says(cas(own.State, api.Ready, api.Running), api.EvStart, 1, 2).Sets(2, after)),
			claim(f, fmt.Sprintf("the record %v, started", r), 1, 2, api.Got, 2, resumes(own, 1, 2)),
		)
	}
	return l
}

// P18.3: any worker, also one that is none. Its number is that of the event.
func claimWorkers() []steptest.Way {
	var l []steptest.Way
	for _, worker := range append(noNumbers(2), 0, 1) {
		l = append(l,
			claim(recorded(home, is(own.State, api.Ready)), "ready", worker, 2, api.Got, 2, starts(own, worker, 2)),
			claim(recorded(home, is(own.State, api.Ready), 2), "ready again", worker, 2, api.Got, 2, resumes(own, worker, 2)),
			claim(recorded(home, is(own.State, api.Blocked), 2), "blocked", worker, 2, api.Abort, 0, skips(own, api.Blocked, worker, 2)),
		)
	}
	return l
}

// P18.3 and R7: a number that is not a task has no cell, so that the CAS makes no access and returns false. The events have the number all the same.
func claimNoTasks(c api.Config) []steptest.Way {
	var l []steptest.Way
	for _, task := range noNumbers(c.Tasks) {
		if 0 <= task && task < c.Tasks {
			continue
		}
		for _, worker := range []int{0, 1, -1, 17, math.MaxInt, math.MinInt} {
			l = append(l, claim(recorded(c, beside(c), 0), "no such task", worker, task, api.Abort, 0, says(none, api.EvSkip, worker, task)))
		}
	}
	return l
}

// P18.3: every task, between others that are ready.
func claimAll(c api.Config) []steptest.Way {
	var l []steptest.Way
	for task := range c.Tasks {
		r, worker := rowOf(c, task), c.Workers-1
		puts := join(beside(c, task), is(r.State, api.Ready))
		l = append(l,
			claim(recorded(c, puts), "between others", worker, task, api.Got, task, starts(r, worker, task)),
			claim(recorded(c, puts, task), "again, between others", worker, task, api.Got, task, resumes(r, worker, task)),
			claim(recorded(c, join(puts, is(r.State, api.Done))), "done, between others", worker, task, api.Abort, 0, skips(r, api.Done, worker, task)),
		)
	}
	return l
}

// P18.3: what other machines put into the State before the line.
func claimOthers() []steptest.Way {
	ready := recorded(home, is(own.State, api.Ready))
	return []steptest.Way{
		claim(ready, "claimed before", 1, 2, api.Abort, 0, skips(own, api.Running, 1, 2).After(own.State, api.Running)),
		claim(ready, "done before", 1, 2, api.Abort, 0, skips(own, api.Done, 1, 2).After(own.State, api.Done)),
		claim(ready, "claimed and ready again before", 1, 2, api.Got, 2, starts(own, 1, 2).After(own.State, api.Running).After(own.State, api.Ready)),
		claim(recorded(home, nil), "ready before", 1, 2, api.Got, 2, starts(own, 1, 2).After(own.State, api.Ready)),
		claim(recorded(home, is(own.State, api.Blocked), 2), "ready again before", 1, 2, api.Got, 2, resumes(own, 1, 2).After(own.State, api.Ready)),
		claim(recorded(home, is(own.State, api.Ready)), "time goes on before", 1, 2, api.Got, 2, starts(own, 1, 2).Later(9)),
	}
}

func TestClaim(t *testing.T) {
	steptest.Check(t, claimStates()...)
	steptest.Check(t, claimRecords()...)
	steptest.Check(t, claimWorkers()...)
	steptest.Check(t, claimOthers()...)
	for _, c := range sizes() {
		steptest.Check(t, claimNoTasks(c)...)
		steptest.Check(t, claimAll(c)...)
	}
}

// P18.3: of several Claims between two times that a task is made ready the first one gets it, whoever that is. It starts the first time and resumes ever after.
func TestClaimAgain(t *testing.T) {
	e := recorded(home, nil)
	for time := range 4 {
		machine.Run(e, table.Publish(2, time), 9)
		for i, worker := range []int{time % 2, 1, 0, 1 - time%2, 0} {
			what, x := fmt.Sprintf("Claim number %d of time %d", i, time), table.Claim(worker, 2)
			code, value, s := api.Got, 2, resumes(own, worker, 2)
			switch {
			case i > 0:
				code, value, s = api.Abort, 0, skips(own, api.Running, worker, 2)
			case time == 0:
				s = starts(own, worker, 2)
			}
			steptest.CheckStep(t, what, e, x, s, true)
			steptest.CheckResult(t, what, x, code, value)
		}
	}
}

// R1: an environment whose layout and memory were replaced by greater ones has cells of tasks without a record, which none has started.
func TestClaimWithoutRecord(t *testing.T) {
	great := sized(2, 3, 9, 2)
	e, f := recorded(home, nil, 0, 1, 2, 3), steptest.Made(great)
	e.Layout, e.Memory = f.Layout, f.Memory
	for task := range great.Tasks {
		r := rowOf(great, task)
		s := resumes(r, 1, task)
		if task >= home.Tasks {
			s = says(cas(r.State, api.Ready, api.Running), api.EvStart, 1, task)
		}
		x := table.Claim(1, task)
		steptest.CheckStep(t, "Claim", e, x, s.After(r.State, api.Ready), true)
		steptest.CheckResult(t, "Claim", x, api.Got, task)
	}
}

// The number of tasks is that of the configuration, also if somebody has put another layout into the environment.
func TestTasksOfConfiguration(t *testing.T) {
	f := steptest.Made(sized(2, 3, 9, 2))
	for _, begin := range []func() machine.Machine{
		func() machine.Machine { return table.Publish(home.Tasks, 0) },
		func() machine.Machine { return table.Enter(0, home.Tasks) },
	} {
		e, x := recorded(home, nil), begin()
		e.Layout, e.Memory = f.Layout, f.Memory
		steptest.CheckStep(t, "a number that has cells, but is not a task", e, x, none, true)
		steptest.CheckResult(t, "a number that has cells, but is not a task", x, api.Abort, 0)
	}
}

// R1 and chapter 2: where the memory has no cells, each line is a step without an access, whose load is 0.
func TestNoCells(t *testing.T) {
	e := recorded(home, nil)
	e.Memory = memory.New(0)
	for _, x := range []struct {
		what        string
		machine     machine.Machine
		steps       []step
		code, value int
	}{
		{"Allocate", table.Allocate(), []step{none}, api.Got, 0},
		{"Publish", table.Publish(2, 1), []step{none, none, none}, api.Fine, 0},
		{"Claim", table.Claim(1, 2), []step{says(none, api.EvSkip, 1, 2)}, api.Abort, 0},
		{"Enter", table.Enter(1, 2), []step{none, none, none, none, none, none, none, none}, api.Fine, 0},
	} {
		for i, s := range x.steps {
			steptest.CheckStep(t, x.what, e, x.machine, s, i == len(x.steps)-1)
		}
		steptest.CheckResult(t, x.what, x.machine, x.code, x.value)
	}
}
