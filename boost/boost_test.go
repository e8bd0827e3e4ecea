package boost_test

import (
	"fmt"
	"math"
	"slices"
	"testing"

	"worksteal/api"
	"worksteal/boost"
	"worksteal/machine"
	"worksteal/memory"
	"worksteal/steptest"
)

// Contents of cells at the limits: the greatest one, and 2^63, which is the least int.
const (
	top  = math.MaxUint64
	half = 1 << 63
)

// Short names for what a step of a machine must do, for what is put into cells before it, and for the cells of a task.
type (
	step = steptest.Step
	put  = steptest.Put
	row  = steptest.Row
)

var (
	none = steptest.None()
	load = steptest.Load
	cas  = steptest.CAS
)

// Short names for configurations, their cells, and what they contain.
var (
	sized   = steptest.Sized
	bitsOf  = steptest.BitsOf
	dequeOf = steptest.DequeOf
	rowOf   = steptest.RowOf
	is      = steptest.Is
	has     = steptest.Has
	beside  = steptest.Beside
)

// sizes returns configurations with few and with many workers, levels, tasks and places, up to the greatest ones.
func sizes() []api.Config {
	return []api.Config{sized(1, 1, 1, 1), sized(1, 2, 2, 3), sized(2, 3, 5, 2), sized(3, 1, 4, 4), sized(16, 64, 3, 1), sized(1, 1, 256, 64), sized(2, 64, 2, 1)}
}

// Most ways are those of worker 1 of two, and of task 2 of five tasks on three levels.
var (
	home  = sized(2, 3, 5, 2)
	own   = rowOf(home, 2)
	first = rowOf(home, 0)
	last  = rowOf(home, 4)
)

// join returns steps, or puts, as one list.
func join[T any](l ...[]T) []T { return slices.Concat(l...) }

// noNumbers returns numbers that are none from 0 to n - 1; some of them become one if they are cut off.
func noNumbers(n int) []int {
	l := []int{-1, -2, -n, -256, n, n + 1, 2 * n, 256, 257, 1 << 16, 1 << 32, 1<<32 + 1, 1<<62 + 1, -1 << 32, math.MaxInt - 1, math.MaxInt, math.MinInt, math.MinInt + 1}
	return slices.DeleteFunc(l, func(i int) bool { return 0 <= i && i < n })
}

// says returns the step with the event of a kind.
func says(s step, kind, worker, task, level int) step {
	return s.Emits(api.Event{Kind: kind, Worker: worker, Task: task, Level: level})
}

// rises returns the steps of a Raise by worker 1 of a task of home whose Level cell contains a word.
func rises(task int, old uint64, level int) []step { return risesIn(home, 1, task, old, level) }

// risesIn returns the steps of a Raise of a task of a configuration whose Level cell contains a word.
func risesIn(c api.Config, worker, task int, old uint64, level int) []step {
	cell := rowOf(c, task).Level
	return []step{load(cell, old), says(cas(cell, old, uint64(level)), api.EvBoost, worker, task, level)}
}

// fails returns the steps of a Raise that does not find in line 2 what it has found in line 1.
func fails(task int, old, v uint64) []step {
	cell := rowOf(home, task).Level
	return []step{load(cell, old), cas(cell, v, v).After(cell, v)}
}

// stays returns the step of a Raise of a task of home that is high enough.
func stays(task int, v uint64) []step { return []step{load(rowOf(home, task).Level, v)} }

// raise returns the way of a Raise of task 2 by worker 1.
func raise(what string, puts []put, level, code int, steps ...[]step) steptest.Way {
	return raiseIn(home, what, puts, 1, 2, level, code, steps...)
}

// raiseIn returns the way of a Raise in an environment of a configuration.
func raiseIn(c api.Config, what string, puts []put, worker, task, level, code int, steps ...[]step) steptest.Way {
	return steptest.Way{
		What:  fmt.Sprintf("Raise(%d, %d, %d) of %d tasks and %d levels, %s", worker, task, level, c.Tasks, c.Levels, what),
		Env:   steptest.Made(c, puts...),
		Make:  func() machine.Machine { return boost.Raise(worker, task, level) },
		Steps: join(steps...),
		Code:  code,
	}
}

// reached returns contents of a Level cell that are at least a level, and below those contents that are less, as int. Some of them are no level.
func reached(level uint64) (high, low []uint64) {
	high = []uint64{level, level + 1, level + 2, 63, 64, 255, 256, 1<<16 + 1, 1<<32 - 1, 1 << 32, 1<<32 + 1, 1 << 62, half - 2, half - 1}
	low = []uint64{top, top - 1, top - 63, top - 1<<32, top - 1<<32 + 1, half + 1<<32, half + 2, half + 1, half}
	for q := range level {
		low = append(low, q)
	}
	return high, low
}

// P19.1: what the Level cell contains, for each level: it is raised if it is less.
func raiseLevels() []steptest.Way {
	var l []steptest.Way
	for level := range home.Levels {
		high, low := reached(uint64(level))
		for _, q := range high {
			l = append(l, raise(fmt.Sprintf("the level %d", q), is(own.Level, q), level, api.Fine, stays(2, q)))
		}
		for _, q := range low {
			l = append(l, raise(fmt.Sprintf("the level %d", int(q)), is(own.Level, q), level, api.Got, rises(2, q, level)))
		}
	}
	return l
}

// P19.1: no other cell matters: not the state of the task, not whether it waits, and not the other tasks.
func raiseBeside() []steptest.Way {
	var l []steptest.Way
	for _, state := range states() {
		puts := join(beside(home), is(own.State, state), is(own.Level, 1))
		l = append(l,
			raise(fmt.Sprintf("the state %d beside others", state), puts, 2, api.Got, rises(2, 1, 2)),
			raise(fmt.Sprintf("the state %d beside others, high enough", state), puts, 1, api.Fine, stays(2, 1)),
		)
	}
	return l
}

// states returns contents of State cells: Ready, the other states, and words that are no state. Some of these become Ready if they are cut off.
func states() []uint64 {
	return []uint64{api.Ready, api.Absent, api.Running, api.Blocked, api.Done, 5, 255, 256, 257, 1<<16 + 1, 1 << 32, 1<<32 + 1, half - 1, half, half + 1, top - 1, top}
}

// P19.1: any worker, also one that is none. Its number is that of the event.
func raiseWorkers() []steptest.Way {
	var l []steptest.Way
	for _, worker := range append(noNumbers(2), 0, 1) {
		l = append(l,
			raiseIn(home, "raised", nil, worker, 2, 1, api.Got, risesIn(home, worker, 2, 0, 1)),
			raiseIn(home, "high enough", is(own.Level, 2), worker, 2, 1, api.Fine, stays(2, 2)),
		)
	}
	return l
}

// P19.1: what other machines put into the Level cell between the lines. A CAS that fails leads back to line 1, and emits nothing.
func raiseOthers() []steptest.Way {
	l := []steptest.Way{
		raise("the level rises before line 1", nil, 1, api.Fine, []step{load(own.Level, 1).After(own.Level, 1)}),
		raise("the level falls before line 1", is(own.Level, 2), 1, api.Got, []step{load(own.Level, 0).After(own.Level, 0)}, rises(2, 0, 1)[1:]),
		raise("another one raises it as far", nil, 2, api.Fine, fails(2, 0, 2), stays(2, 2)),
		raise("another one raises it farther", nil, 1, api.Fine, fails(2, 0, 2), stays(2, 2)),
		raise("another one raises it less far", nil, 2, api.Got, fails(2, 0, 1), rises(2, 1, 2)),
		raise("another one lowers it", is(own.Level, 1), 2, api.Got, fails(2, 1, 0), rises(2, 0, 2)),
		raise("another one lets it be none", is(own.Level, 1), 2, api.Got, fails(2, 1, top), rises(2, top, 2)),
		raise("another one lets it be great", is(own.Level, 1), 2, api.Fine, fails(2, 1, half-1), stays(2, half-1)),
		raise("it rises and falls again", nil, 2, api.Got, []step{load(own.Level, 0), rises(2, 0, 2)[1].After(own.Level, 2).After(own.Level, 0)}),
		raise("the other cells of the task change", nil, 2, api.Got, []step{load(own.Level, 0), rises(2, 0, 2)[1].After(own.State, 1).After(own.Waits, 4).After(own.Since, 9).After(own.Join, 3)}),
		raise("the levels of other tasks change", nil, 2, api.Got, []step{load(own.Level, 0), rises(2, 0, 2)[1].After(first.Level, 2).After(last.Level, 2).After(last.Level, 1)}),
		raise("it changes before the second load", nil, 2, api.Got, fails(2, 0, 1), []step{load(own.Level, 0).After(own.Level, 0)}, rises(2, 0, 2)[1:]),
		raise("it is raised before the second load", nil, 2, api.Fine, fails(2, 0, 1), []step{load(own.Level, 2).After(own.Level, 2)}),
		raise("time goes on", nil, 2, api.Got, []step{load(own.Level, 0).Later(3), rises(2, 0, 2)[1].Later(5)}),
	}
	for _, times := range []int{2, 3, 40} {
		var steps []step
		for i := range times {
			steps = append(steps, fails(2, uint64(i%2), uint64(1-i%2))...)
		}
		now := uint64(times % 2)
		l = append(l,
			raise(fmt.Sprintf("the CAS fails %d times", times), nil, 2, api.Got, steps, rises(2, now, 2)),
			raise(fmt.Sprintf("the CAS fails %d times, and then the level is reached", times), nil, 2, api.Fine, steps, fails(2, now, 2), stays(2, 2)),
		)
	}
	return l
}

// P19.1: every task, to every level and from every lower one, and from its own one.
func raiseEverywhere(c api.Config) []steptest.Way {
	var l []steptest.Way
	for task := range c.Tasks {
		cell := rowOf(c, task).Level
		for level := range c.Levels {
			for q := range uint64(level) {
				puts := join(beside(c, task), is(cell, q))
				l = append(l, raiseIn(c, fmt.Sprintf("from level %d", q), puts, 0, task, level, api.Got, risesIn(c, 0, task, q, level)))
			}
			v := uint64(level)
			l = append(l, raiseIn(c, "from its own level", join(beside(c, task), is(cell, v)), 0, task, level, api.Fine, []step{load(cell, v)}))
		}
	}
	return l
}

func TestRaise(t *testing.T) {
	steptest.Check(t, raiseLevels()...)
	steptest.Check(t, raiseBeside()...)
	steptest.Check(t, raiseWorkers()...)
	steptest.Check(t, raiseOthers()...)
	for _, c := range sizes() {
		steptest.Check(t, raiseEverywhere(c)...)
	}
}

// P19.1: a CAS that fails is never the end. As long as others write the cell, the machine goes on.
func TestRaiseForLong(t *testing.T) {
	e, x := steptest.Made(home), boost.Raise(1, 2, 2)
	for i := range uint64(500) {
		old, v := top-i+1, top-i
		if i == 0 {
			old = 0
		}
		for j, s := range fails(2, old, v) {
			steptest.CheckStep(t, fmt.Sprintf("time %d, line %d", i, j+1), e, x, s, false)
			steptest.CheckResult(t, "before the end", x, 0, 0)
		}
	}
	for j, s := range rises(2, top-499, 2) {
		steptest.CheckStep(t, "the end", e, x, s, j == 1)
	}
	steptest.CheckResult(t, "the end", x, api.Got, 0)
}

// nothing returns the way of a machine that is done with its first step, which makes no access, with Abort and 0.
func nothing(c api.Config, what string, begin func() machine.Machine) steptest.Way {
	return steptest.Way{
		What:  fmt.Sprintf("%s of %d tasks and %d levels, which is none", what, c.Tasks, c.Levels),
		Env:   steptest.Made(c, beside(c)...),
		Make:  begin,
		Steps: []step{none},
		Code:  api.Abort,
	}
}

// P19.1 and P19.2: a number that is not a task, a level that is none, or both. Nothing happens but that the machine is done.
func noArguments(c api.Config) []steptest.Way {
	var l []steptest.Way
	add := func(worker, task, level int) {
		l = append(l,
			nothing(c, fmt.Sprintf("Raise(%d, %d, %d)", worker, task, level), func() machine.Machine { return boost.Raise(worker, task, level) }),
			nothing(c, fmt.Sprintf("Walk(%d, %d, %d)", worker, task, level), func() machine.Machine { return boost.Walk(worker, task, level) }),
		)
	}
	for i, task := range noNumbers(c.Tasks) {
		for _, level := range []int{0, c.Levels - 1, c.Levels, -1, math.MinInt, math.MaxInt} {
			add(i%3-1, task, level)
		}
	}
	for i, level := range noNumbers(c.Levels) {
		for _, task := range []int{0, c.Tasks - 1} {
			add(i%3-1, task, level)
		}
	}
	return l
}

func TestNoArguments(t *testing.T) {
	for _, c := range sizes() {
		steptest.Check(t, noArguments(c)...)
	}
}

// The number of tasks and that of levels are those of the configuration, also if somebody has put another layout into the environment.
func TestNumbersOfConfiguration(t *testing.T) {
	f := steptest.Made(sized(2, 9, 9, 2))
	for _, x := range []machine.Machine{boost.Raise(1, 5, 2), boost.Walk(1, 5, 2), boost.Raise(1, 2, 3), boost.Walk(1, 2, 3)} {
		e := steptest.Made(home)
		e.Layout, e.Memory = f.Layout, f.Memory
		steptest.CheckStep(t, "a number that has cells, but is none", e, x, none, true)
		steptest.CheckResult(t, "a number that has cells, but is none", x, api.Abort, 0)
	}
}

// R1 and chapter 2: where the memory has no cells, each line is a step without an access. A Load finds 0, and a CAS fails, so that a Raise does not come to an end where 0 is not enough.
func TestNoCells(t *testing.T) {
	for _, begin := range []func(level int) machine.Machine{
		func(level int) machine.Machine { return boost.Raise(1, 2, level) },
		func(level int) machine.Machine { return boost.Walk(1, 2, level) },
	} {
		e := steptest.Made(home)
		e.Memory = memory.New(0)
		x, y := begin(0), begin(1)
		if n, done := machine.Run(e, x, 9); n > 2 || !done {
			t.Errorf("%T to level 0: %d steps, done is %t", x, n, done)
		}
		steptest.CheckResult(t, "to level 0", x, api.Fine, 0)
		for range 100 {
			steptest.CheckStep(t, "to level 1", e, y, none, false)
		}
	}
}
