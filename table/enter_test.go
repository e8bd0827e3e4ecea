package table_test

import (
	"fmt"
	"math"
	"testing"

	"worksteal/api"
	"worksteal/machine"
	"worksteal/steptest"
	"worksteal/table"
)

// enter returns the way of an Enter of worker 1 and task 2.
func enter(what string, puts []put, code, value int, steps ...[]step) steptest.Way {
	return enterIn(home, what, puts, 1, 2, code, value, steps...)
}

// enterIn returns the way of an Enter in an environment of a configuration.
func enterIn(c api.Config, what string, puts []put, worker, task, code, value int, steps ...[]step) steptest.Way {
	return steptest.Way{
		What:  fmt.Sprintf("Enter(%d, %d) of %d tasks and %d workers with %d levels, %s", worker, task, c.Tasks, c.Workers, c.Levels, what),
		Env:   recorded(c, puts, task),
		Make:  func() machine.Machine { return table.Enter(worker, task) },
		Steps: join(steps...),
		Code:  code,
		Value: value,
	}
}

// opens returns the first three steps of an Enter of a task, whose Level cell contains a word, and whose other cells contain 0, at the time 1.
func opens(r row, level uint64) []step {
	return []step{store(r.Since, 0, 1), store(r.State, 0, api.Ready), load(r.Level, level)}
}

// pushes returns the steps of a Push of task 2 by worker 1 into a place that contains 0, with the bitmap before and behind it.
func pushes(q api.Queue, b, t, old, v uint64) []step {
	return pushesIn(q, b, t, 2, or(bits, old, v))
}

// pushesIn returns the steps of a Push of a task into a place that contains 0, with the one that sets its bit.
func pushesIn(q api.Queue, b, t, task uint64, set step) []step {
	return append(steptest.Pushes(q, b, t, 0, task), set)
}

// wants returns the put of a word into the Level cell of task 2.
func wants(level uint64) []put { return is(own.Level, level) }

// P18.4: each level, what is in its deque and in the bitmap, and what the cells of the task contain before.
func enterLines() []steptest.Way {
	full := []put{{Cell: middle.Top, V: 4}, {Cell: middle.Bottom, V: 6}}
	over := []step{store(own.Since, 8, 1), store(own.State, 4, api.Ready), load(own.Level, 1)}
	return []steptest.Way{
		enter("the least level", nil, api.Fine, 0, opens(own, 0), pushes(low, 0, 0, 0, 1)),
		enter("a level between others", wants(1), api.Fine, 1, opens(own, 1), pushes(middle, 0, 0, 0, 2)),
		enter("the greatest level", wants(2), api.Fine, 2, opens(own, 2), pushes(high, 0, 0, 0, 4)),
		enter("an entry", join(wants(1), has(middle, 6, 3), is(bits, 2)), api.Fine, 1, opens(own, 1), pushes(middle, 7, 6, 2, 2)),
		enter("an entry of the task itself", join(wants(1), has(middle, 6, 2), is(bits, 2)), api.Fine, 1, opens(own, 1), pushes(middle, 7, 6, 2, 2)),
		enter("other bits", join(wants(1), is(bits, 5)), api.Fine, 1, opens(own, 1), pushes(middle, 0, 0, 5, 7)),
		enter("all bits", join(wants(1), is(bits, top)), api.Fine, 1, opens(own, 1), pushes(middle, 0, 0, top, top)),
		enter("full deques of other levels", join(wants(1), has(low, 0, 1, 3), has(high, 0, 1, 3)), api.Fine, 1, opens(own, 1), pushes(middle, 0, 0, 0, 2)),
		enter("other tasks", join(beside(home, 2), wants(1)), api.Fine, 1, opens(own, 1), pushes(middle, 0, 0, 0, 2)),
		enter("a task that was there before", join(own.Filled(4), wants(1)), api.Fine, 1, over, pushes(middle, 0, 0, 0, 2)),
		enter("a full deque", join(wants(1), full, is(bits, 2)), api.Full, 1, opens(own, 1), looks(middle, 6, 4)),
		enter("a full deque whose bit is 0", join(wants(1), full), api.Full, 1, opens(own, 1), looks(middle, 6, 4)),
		enter("more than full", join(wants(1), is(middle.Bottom, 9)), api.Full, 1, opens(own, 1), looks(middle, 9, 0)),
		enter("a full deque of the least level", has(low, 3, 1, 3), api.Full, 0, opens(own, 0), looks(low, 5, 3)),
		enter("a full deque of the greatest level", join(wants(2), has(high, 3, 1, 3)), api.Full, 2, opens(own, 2), looks(high, 5, 3)),
	}
}

// P18.4: states of all kinds before line 2, which makes the task ready whatever it was.
func enterStates() []steptest.Way {
	var l []steptest.Way
	for _, state := range states() {
		first := []step{store(own.Since, 0, 1), store(own.State, state, api.Ready), load(own.Level, 1)}
		l = append(l, enter(fmt.Sprintf("the state %d", state), join(wants(1), is(own.State, state)), api.Fine, 1, first, pushes(middle, 0, 0, 0, 2)))
	}
	return l
}

// P18.4 and R7: contents of the Level cell that are no level. There is no such deque, and one without places is full.
func enterNoLevels() []steptest.Way {
	var l []steptest.Way
	for _, p := range noNumbers(home.Levels) {
		l = append(l, enter(fmt.Sprintf("the level %d", p), wants(uint64(p)), api.Full, p, opens(own, uint64(p)), []step{none, none}))
	}
	return l
}

// P18.4 and R7: a worker that does not exist has no deque either.
func enterNoWorkers() []steptest.Way {
	var l []steptest.Way
	for _, worker := range noNumbers(home.Workers) {
		for _, p := range []int{0, 1, 2, 3, -1} {
			l = append(l, enterIn(home, fmt.Sprintf("the level %d", p), wants(uint64(p)), worker, 2, api.Full, p, opens(own, uint64(p)), []step{none, none}))
		}
	}
	return l
}

// P18.4: the time of line 1 is stored, and not that of another line.
func enterTimes() []steptest.Way {
	steps := join(opens(own, 1), pushes(middle, 0, 0, 0, 2))
	// at returns the way of an Enter at each of whose lines the clock ticks as often as a list says.
	at := func(ticks ...int) steptest.Way {
		var l []step
		for i, s := range steps {
			if i == 0 {
				s = store(own.Since, 0, uint64(1+ticks[0]))
			}
			l = append(l, s.Later(ticks[i]))
		}
		return enter(fmt.Sprintf("ticks before the lines: %d", ticks), wants(1), api.Fine, 1, l)
	}
	return []steptest.Way{
		at(3, 0, 0, 0, 0, 0, 0, 0),
		at(0, 3, 0, 0, 0, 0, 0, 0),
		at(0, 0, 3, 0, 0, 0, 0, 0),
		at(0, 0, 0, 1, 2, 3, 4, 5),
		at(1, 1, 1, 1, 1, 1, 1, 1),
		at(70000, 1, 0, 0, 0, 0, 0, 0),
	}
}

// P18.4: what other machines put into cells between the lines. The level of line 3 is the one that counts.
func enterOthers() []steptest.Way {
	first := opens(own, 1)
	push := pushes(middle, 0, 0, 0, 2)
	full := []put{{Cell: middle.Top, V: 4}, {Cell: middle.Bottom, V: 6}}
	return []steptest.Way{
		enter("all cells change before line 1", nil, api.Fine, 1, []step{store(own.Since, 7, 1).After(own.Since, 7).After(own.State, 8).After(own.Level, 1), store(own.State, 8, api.Ready), first[2]}, push),
		enter("the time changes before line 2", wants(1), api.Fine, 1, []step{first[0], first[1].After(own.Since, 9), first[2]}, push),
		enter("the task is ready before line 2", wants(1), api.Fine, 1, []step{first[0], store(own.State, api.Ready, api.Ready).After(own.State, api.Ready), first[2]}, push),
		enter("another one claims the task before line 3", wants(1), api.Fine, 1, []step{first[0], first[1], first[2].After(own.State, api.Running)}, push),
		enter("the level rises before line 1", nil, api.Fine, 1, []step{first[0].After(own.Level, 1), first[1], first[2]}, push),
		enter("the level rises before line 2", nil, api.Fine, 1, []step{first[0], first[1].After(own.Level, 1), first[2]}, push),
		enter("the level rises before line 3", nil, api.Fine, 1, []step{first[0], first[1], first[2].After(own.Level, 1)}, push),
		enter("the level rises before line 4", wants(1), api.Fine, 1, first, []step{push[0].After(own.Level, 2)}, push[1:]),
		enter("the level rises in the middle of line 4", wants(1), api.Fine, 1, first, push[:2], []step{push[2].After(own.Level, 2)}, push[3:]),
		enter("the level rises before the last step", wants(1), api.Fine, 1, first, push[:4], []step{push[4].After(own.Level, 2)}),
		enter("the level rises while the deque is full", join(wants(1), full), api.Full, 1, first, []step{load(middle.Bottom, 6).After(own.Level, 2), load(middle.Top, 4)}),
		enter("the level becomes none before line 4", wants(1), api.Fine, 1, first, []step{push[0].After(own.Level, top)}, push[1:]),
		enter("another one claims the task in the middle of line 4", wants(1), api.Fine, 1, first, push[:1], []step{push[1].After(own.State, api.Running)}, push[2:]),
		enter("a thief takes an entry of a full deque", join(wants(1), full), api.Fine, 1, first, []step{load(middle.Bottom, 6), load(middle.Top, 5).After(middle.Top, 5), store(middle.Ring, 0, 2), store(middle.Bottom, 6, 7), push[4]}),
		enter("the deque is full before line 4", wants(1), api.Full, 1, first, []step{load(middle.Bottom, 2).After(middle.Bottom, 2), load(middle.Top, 0)}),
		enter("the bit is set before the last step", wants(1), api.Fine, 1, first, push[:4], []step{or(bits, 6, 6).After(bits, 6)}),
	}
}

// P18.4: every worker and every level, for the first and the last task.
func enterEverywhere(c api.Config) []steptest.Way {
	var l []steptest.Way
	for worker := range c.Workers {
		for level := range c.Levels {
			for _, task := range []int{0, c.Tasks - 1} {
				r, q, p := rowOf(c, task), dequeOf(c, worker, level), uint64(level)
				puts := join(beside(c, task), is(r.Level, p))
				set := or(bitsOf(c, worker), 0, 1<<level)
				l = append(l,
					enterIn(c, "an empty deque", puts, worker, task, api.Fine, level, opens(r, p), pushesIn(q, 0, 0, uint64(task), set)),
					enterIn(c, "a full deque", join(puts, is(q.Bottom, uint64(c.Deque))), worker, task, api.Full, level, opens(r, p), looks(q, uint64(c.Deque), 0)),
				)
			}
		}
	}
	return l
}

// P18.4: every task.
func enterAll(c api.Config) []steptest.Way {
	var l []steptest.Way
	for task := range c.Tasks {
		r, q := rowOf(c, task), dequeOf(c, 0, 0)
		l = append(l, enterIn(c, "every task", beside(c, task), 0, task, api.Fine, 0, opens(r, 0), pushesIn(q, 0, 0, uint64(task), or(bitsOf(c, 0), 0, 1))))
	}
	return l
}

func TestEnter(t *testing.T) {
	steptest.Check(t, enterLines()...)
	steptest.Check(t, enterStates()...)
	steptest.Check(t, enterNoLevels()...)
	steptest.Check(t, enterNoWorkers()...)
	steptest.Check(t, enterTimes()...)
	steptest.Check(t, enterOthers()...)
	for _, c := range sizes() {
		steptest.Check(t, enterEverywhere(c)...)
		steptest.Check(t, enterAll(c)...)
	}
}

// The copy of a machine behind each of its lines, in the middle of the inner Push, and of one that is done, continues independently, whichever goes on first.
func TestCopies(t *testing.T) {
	small := sized(2, 2, 3, 1)
	steptest.CheckCopies(t, join(allocates(home), allocateOthers())...)
	steptest.CheckCopies(t, join(publishLines(), publishLevels(), publishTimes()[:4], publishOthers(), publishAll(small), noTasks(small))...)
	steptest.CheckCopies(t, join(claimStates(), claimRecords(), claimWorkers(), claimOthers(), claimNoTasks(small), claimAll(small))...)
	steptest.CheckCopies(t, join(enterLines(), enterStates(), enterNoLevels(), enterNoWorkers(), enterTimes()[:5], enterOthers(), enterEverywhere(small), enterAll(small))...)
}

// ways returns ways of all machines.
func ways() []steptest.Way {
	return join(
		allocates(home), allocateOthers(), publishLines(), publishLevels(), publishTimes()[:4], publishOthers(), noTasks(home),
		claimStates(), claimRecords(), claimWorkers(), claimOthers(), claimNoTasks(home),
		enterLines(), enterStates(), enterNoLevels(), enterNoWorkers(), enterTimes()[:5], enterOthers(),
	)
}

// R6: a machine is given to a copy of its environment before each step. What it leaves stays as it is, and what happens there since is nothing to it.
func TestCopiedEnvironments(t *testing.T) { steptest.CheckMoves(t, ways()...) }

// R2 and R6: machines of equal calls behave equally in equal environments, and do not disturb one another.
func TestEqualCalls(t *testing.T) { steptest.CheckPairs(t, ways()...) }

// R6: a machine goes on in the environment of another configuration, whose cells are others. What was loaded stays with it, and a task that there is not has no cells there.
func TestOtherEnvironments(t *testing.T) {
	few, many := sized(1, 1, 2, 1), sized(3, 4, 6, 3)
	other := rowOf(many, 2)
	e, f, g := recorded(home, wants(1)), recorded(few, nil), recorded(many, is(other.Level, 3))
	x := table.Publish(2, 1)
	steptest.CheckStep(t, "Publish, line 1", e, x, store(own.Level, 1, 1), false)
	steptest.CheckStep(t, "Publish, line 2, with few tasks", f, x.Copy(), none, false)
	steptest.CheckStep(t, "Publish, line 2, with many tasks", g, x, store(other.Since, 0, 1), false)
	steptest.CheckStep(t, "Publish, line 3, with few tasks", f, x, none, true)
	steptest.CheckResult(t, "Publish", x, api.Fine, 0)

	y := table.Enter(1, 2)
	steptest.CheckStep(t, "Enter, line 1", e, y, store(own.Since, 0, 1), false)
	z := y.Copy()
	steptest.CheckStep(t, "Enter, line 2, with few tasks", f, z, none, false)
	steptest.CheckStep(t, "Enter, line 3, with few tasks", f, z, none, false)
	for i, s := range pushes(low, 0, 0, 0, 1) {
		steptest.CheckStep(t, "Enter, line 4, with the level of a cell that is not there", e, z, s, i == 4)
	}
	steptest.CheckResult(t, "Enter", z, api.Fine, 0)
	steptest.CheckStep(t, "Enter, line 2, with many tasks", g, y, store(other.State, 0, api.Ready), false)
	steptest.CheckStep(t, "Enter, line 3, with many tasks", g, y, load(other.Level, 3), false)
	q := dequeOf(many, 1, 3)
	push := pushesIn(q, 0, 0, 2, or(bitsOf(many, 1), 0, 8))
	z = y.Copy()
	for i, s := range push {
		steptest.CheckStep(t, "Enter, line 4, with many tasks", g, y, s, i == 4)
	}
	steptest.CheckResult(t, "Enter", y, api.Fine, 3)
	for i, s := range []step{none, none} {
		steptest.CheckStep(t, "Enter, line 4, with few levels", e, z, s, i == 1)
	}
	steptest.CheckResult(t, "Enter with few levels", z, api.Full, 3)
}

// P18.4: whether a number is a task is asked at the first step alone, in the environment of that step.
func TestFirstStepDecides(t *testing.T) {
	few := sized(1, 1, 2, 1)
	for _, begin := range []func() machine.Machine{
		func() machine.Machine { return table.Publish(2, 0) },
		func() machine.Machine { return table.Enter(0, 2) },
	} {
		e, f := recorded(home, nil), recorded(few, nil)
		x := begin()
		steptest.CheckStep(t, "the first step with few tasks", f, x, none, true)
		steptest.CheckStep(t, "the second step", e, x, none, true)
		steptest.CheckResult(t, "the end with few tasks", x, api.Abort, 0)
		y := begin()
		if n, done := machine.Run(e, y, 1); n != 1 || done {
			t.Errorf("%d steps where the number is a task, done is %t", n, done)
		}
		if n, done := machine.Run(f, y, 99); n < 2 || !done {
			t.Errorf("%d steps more where it is none, done is %t", n, done)
		}
		if code, _ := y.Result(); code != api.Fine && code != api.Full {
			t.Errorf("the code is %d, though the number was a task at first", code)
		}
	}
}

// R1: every argument is accepted, in every order of the numbers, and every machine is done after a few steps.
func TestArguments(t *testing.T) {
	numbers := []int{0, 1, 2, 3, 4, 63, 64, 255, 256, -1, -2, math.MaxInt, math.MaxInt - 1, math.MinInt, math.MinInt + 1, 1 << 32, -1 << 32, 1 << 62}
	for _, a := range numbers {
		for _, b := range numbers {
			for _, x := range []machine.Machine{table.Publish(a, b), table.Claim(a, b), table.Enter(a, b)} {
				e := recorded(home, nil)
				if n, done := machine.Run(e, x, 9); !done || n > 8 {
					t.Errorf("%T for %d and %d: %d steps, done is %t", x, a, b, n, done)
				}
			}
		}
	}
}

// The chapter's examples.
func TestExamples(t *testing.T) {
	c := sized(2, 1, 2, 1)
	e := steptest.Made(c)
	for i, want := range []steptest.Result{{Code: api.Got}, {Code: api.Got, Value: 1}, {Code: api.Full}} {
		x := table.Allocate()
		if n, done := machine.Run(e, x, 9); n != 1 || !done {
			t.Errorf("example 1: Allocate number %d takes %d steps, done is %t", i+1, n, done)
		}
		steptest.CheckResult(t, "example 1", x, want.Code, want.Value)
	}
	machine.Run(e, table.Publish(1, 0), 9)
	for i, want := range []steptest.Result{{Code: api.Got, Value: 1}, {Code: api.Abort}} {
		x := table.Claim(i, 1)
		machine.Run(e, x, 9)
		steptest.CheckResult(t, "example 2", x, want.Code, want.Value)
		if g, want := e.Events[len(e.Events)-1], (api.Event{Kind: []int{api.EvStart, api.EvSkip}[i], Worker: i, Task: 1}); g != want {
			t.Errorf("example 2: the event of Claim number %d is %v, want %v", i+1, g, want)
		}
	}
}
