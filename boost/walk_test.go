package boost_test

import (
	"fmt"
	"math"
	"testing"

	"worksteal/api"
	"worksteal/boost"
	"worksteal/machine"
	"worksteal/steptest"
)

// walk returns the way of a Walk of worker 1 from task 2.
func walk(what string, puts []put, level, code int, steps ...[]step) steptest.Way {
	return walkIn(home, what, puts, 1, 2, level, code, steps...)
}

// walkIn returns the way of a Walk in an environment of a configuration.
func walkIn(c api.Config, what string, puts []put, worker, task, level, code int, steps ...[]step) steptest.Way {
	return steptest.Way{
		What:  fmt.Sprintf("Walk(%d, %d, %d) of %d tasks and %d workers with %d levels, %s", worker, task, level, c.Tasks, c.Workers, c.Levels, what),
		Env:   steptest.Made(c, puts...),
		Make:  func() machine.Machine { return boost.Walk(worker, task, level) },
		Steps: join(steps...),
		Code:  code,
	}
}

// state returns the step of line 2 for a task of home.
func state(task int, v uint64) []step { return []step{load(rowOf(home, task).State, v)} }

// waits returns the step of line 4 for a task of home.
func waits(task int, v uint64) []step { return []step{load(rowOf(home, task).Waits, v)} }

// enters returns the steps of line 3 for a task of home and worker 1, whose deque has room, with what its bitmap contains before.
func enters(task, level int, b, t, old uint64) []step {
	return steptest.Enters(home, 1, level, b, t, uint64(task), old)
}

// noRoom returns the steps of line 3 for a task of home and worker 1, whose deque is full.
func noRoom(task, level int, b, t uint64) []step {
	return noRoomIn(steptest.Looks(dequeOf(home, 1, level), b, t), 1, task, level)
}

// noRoomIn returns the steps of line 3 that end with these ones, in which a deque is found full.
func noRoomIn(looks []step, worker, task, level int) []step {
	end := len(looks) - 1
	return append(looks[:end:end], says(looks[end], api.EvNoRoom, worker, task, level))
}

// ready returns puts that let a task of home be ready at a level.
func ready(task int, level uint64) []put {
	r := rowOf(home, task)
	return join(is(r.State, api.Ready), is(r.Level, level))
}

// waiting returns puts that let a task of home be blocked at a level, and wait for another one.
func waiting(task int, level uint64, child int) []put {
	r := rowOf(home, task)
	return join(is(r.State, api.Blocked), is(r.Level, level), is(r.Waits, uint64(child)+1))
}

// climbs returns the steps of a Walk by worker 1 past a task of home that is blocked below the level, and waits for another one.
func climbs(task int, old uint64, level, child int) []step {
	return join(rises(task, old, level), state(task, api.Blocked), waits(task, uint64(child)+1))
}

// Deques and the bitmap of worker 1.
var (
	bits         = bitsOf(home, 1)
	middle, high = dequeOf(home, 1, 1), dequeOf(home, 1, 2)
)

// P19.2: one task, which does not wait: line 1 with each code, a task that is ready or not, and a deque that has room or not.
func walkLines() []steptest.Way {
	end := waits(2, 0)
	return []steptest.Way{
		walk("high enough", is(own.Level, 1), 1, api.Fine, stays(2, 1), end),
		walk("high enough and ready", ready(2, 1), 1, api.Fine, stays(2, 1), end),
		walk("higher and ready", ready(2, 2), 1, api.Fine, stays(2, 2), end),
		walk("to the least level", ready(2, 0), 0, api.Fine, stays(2, 0), end),
		walk("not ready", nil, 1, api.Fine, rises(2, 0, 1), state(2, 0), end),
		walk("ready", ready(2, 0), 1, api.Fine, rises(2, 0, 1), state(2, api.Ready), enters(2, 1, 0, 0, 0), end),
		walk("ready below the greatest level", ready(2, 1), 2, api.Fine, rises(2, 1, 2), state(2, api.Ready), enters(2, 2, 0, 0, 0), end),
		walk("ready two levels below", ready(2, 0), 2, api.Fine, rises(2, 0, 2), state(2, api.Ready), enters(2, 2, 0, 0, 0), end),
		walk("ready at a level that is none", ready(2, top), 0, api.Fine, rises(2, top, 0), state(2, api.Ready), enters(2, 0, 0, 0, 0), end),
		walk("ready beside other tasks", join(beside(home, 2), ready(2, 0)), 1, api.Fine, rises(2, 0, 1), state(2, api.Ready), enters(2, 1, 0, 0, 0), end),
		walk("an entry of the lower level", join(ready(2, 0), has(dequeOf(home, 1, 0), 3, 2), is(bits, 1)), 1, api.Fine, rises(2, 0, 1), state(2, api.Ready), enters(2, 1, 0, 0, 1), end),
		walk("an entry of the level", join(ready(2, 0), has(middle, 3, 4), is(bits, 6)), 1, api.Fine, rises(2, 0, 1), state(2, api.Ready), enters(2, 1, 4, 3, 6), end),
		walk("a full deque", join(ready(2, 0), has(middle, 3, 4, 2), is(bits, 2)), 1, api.Fine, rises(2, 0, 1), state(2, api.Ready), noRoom(2, 1, 5, 3), end),
		walk("a full deque at the greatest level", join(ready(2, 0), has(high, 0, 4, 2)), 2, api.Fine, rises(2, 0, 2), state(2, api.Ready), noRoom(2, 2, 2, 0), end),
		walk("full deques of the other levels", join(ready(2, 0), has(dequeOf(home, 1, 0), 3, 4, 2), has(high, 0, 4, 2)), 1, api.Fine, rises(2, 0, 1), state(2, api.Ready), enters(2, 1, 0, 0, 0), end),
		walk("a full deque of a task that is not ready", has(middle, 3, 4, 2), 1, api.Fine, rises(2, 0, 1), state(2, 0), end),
	}
}

// P19.2: states of all kinds. A task that is Ready alone is entered.
func walkStates() []steptest.Way {
	l := []steptest.Way{walk("the state 1", is(own.State, 1), 1, api.Fine, rises(2, 0, 1), state(2, 1), enters(2, 1, 0, 0, 0), waits(2, 0))}
	for _, s := range states()[1:] {
		l = append(l,
			walk(fmt.Sprintf("the state %d", s), is(own.State, s), 1, api.Fine, rises(2, 0, 1), state(2, s), waits(2, 0)),
			walk(fmt.Sprintf("the state %d, and a child", s), join(is(own.State, s), is(own.Waits, 5)), 1, api.Fine, rises(2, 0, 1), state(2, s), waits(2, 5), rises(4, 0, 1), state(4, 0), waits(4, 0)),
			walk(fmt.Sprintf("the state %d, high enough", s), join(is(own.State, s), is(own.Level, 1)), 1, api.Fine, stays(2, 1), waits(2, 0)),
		)
	}
	return l
}

// P19.2: what the Level cell contains, for each level.
func walkLevels() []steptest.Way {
	var l []steptest.Way
	for level := range home.Levels {
		high, low := reached(uint64(level))
		for _, q := range high {
			l = append(l, walk(fmt.Sprintf("the level %d", q), ready(2, q), level, api.Fine, stays(2, q), waits(2, 0)))
		}
		for _, q := range low {
			l = append(l, walk(fmt.Sprintf("the level %d", int(q)), ready(2, q), level, api.Fine, rises(2, q, level), state(2, api.Ready), enters(2, level, 0, 0, 0), waits(2, 0)))
		}
	}
	return l
}

// P19.2: chains of tasks. Each of them is raised if it is too low, and the walk goes on all the same if it is not; none but a ready one is entered.
func walkChains() []steptest.Way {
	two := join(waiting(2, 0, 4), waiting(4, 0, 0))
	all := join(waiting(2, 0, 4), waiting(4, 1, 0), waiting(0, 0, 3), waiting(3, 1, 1))
	return []steptest.Way{
		walk("a child that is ready", join(waiting(2, 0, 4), ready(4, 0)), 1, api.Fine, climbs(2, 0, 1, 4), rises(4, 0, 1), state(4, api.Ready), enters(4, 1, 0, 0, 0), waits(4, 0)),
		walk("the child is high enough", join(waiting(2, 0, 4), ready(4, 1)), 1, api.Fine, climbs(2, 0, 1, 4), stays(4, 1), waits(4, 0)),
		walk("the task is high enough", join(waiting(2, 1, 4), ready(4, 0)), 1, api.Fine, stays(2, 1), waits(2, 5), rises(4, 0, 1), state(4, api.Ready), enters(4, 1, 0, 0, 0), waits(4, 0)),
		walk("both are high enough", join(waiting(2, 2, 4), ready(4, 2)), 1, api.Fine, stays(2, 2), waits(2, 5), stays(4, 2), waits(4, 0)),
		walk("the child runs", join(waiting(2, 0, 4), is(last.State, api.Running)), 2, api.Fine, climbs(2, 0, 2, 4), rises(4, 0, 2), state(4, api.Running), waits(4, 0)),
		walk("three tasks, the last one ready", join(two, ready(0, 0)), 2, api.Fine, climbs(2, 0, 2, 4), climbs(4, 0, 2, 0), rises(0, 0, 2), state(0, api.Ready), enters(0, 2, 0, 0, 0), waits(0, 0)),
		walk("three tasks, the middle one high enough", join(waiting(2, 0, 4), waiting(4, 2, 0), ready(0, 0)), 1, api.Fine, climbs(2, 0, 1, 4), stays(4, 2), waits(4, 1), rises(0, 0, 1), state(0, api.Ready), enters(0, 1, 0, 0, 0), waits(0, 0)),
		walk("three tasks, the last one full", join(two, ready(0, 0), has(middle, 0, 1, 1)), 1, api.Fine, climbs(2, 0, 1, 4), climbs(4, 0, 1, 0), rises(0, 0, 1), state(0, api.Ready), noRoom(0, 1, 2, 0), waits(0, 0)),
		walk("each task is ready and has a child all the same", join(two, ready(2, 0), ready(4, 0), ready(0, 0)), 1, api.Fine,
			rises(2, 0, 1), state(2, api.Ready), enters(2, 1, 0, 0, 0), waits(2, 5),
			rises(4, 0, 1), state(4, api.Ready), enters(4, 1, 1, 0, 2), waits(4, 1),
			rises(0, 0, 1), state(0, api.Ready), noRoom(0, 1, 2, 0), waits(0, 0)),
		walk("all tasks to the greatest level", all, 2, api.Fine, climbs(2, 0, 2, 4), climbs(4, 1, 2, 0), climbs(0, 0, 2, 3), climbs(3, 1, 2, 1), rises(1, 0, 2), state(1, 0), waits(1, 0)),
		walk("all tasks to a level that some have", all, 1, api.Fine, climbs(2, 0, 1, 4), stays(4, 1), waits(4, 1), climbs(0, 0, 1, 3), stays(3, 1), waits(3, 2), rises(1, 0, 1), state(1, 0), waits(1, 0)),
		walk("all tasks to the least level", all, 0, api.Fine, stays(2, 0), waits(2, 5), stays(4, 1), waits(4, 1), stays(0, 0), waits(0, 4), stays(3, 1), waits(3, 2), stays(1, 0), waits(1, 0)),
	}
}

// P19.2: a chain that leads to a number that is not a task. The walk is done with the step that finds it, and the levels that were raised stay so.
func walkAstray() []steptest.Way {
	var l []steptest.Way
	for _, n := range noNumbers(home.Tasks) {
		y := uint64(n) + 1
		// A Waits cell that contains 0 says that the task does not wait.
		if y == 0 {
			continue
		}
		l = append(l,
			walk(fmt.Sprintf("a child %d", n), is(own.Waits, y), 1, api.Abort, rises(2, 0, 1), state(2, 0), waits(2, y), []step{none}),
			walk(fmt.Sprintf("a child %d of a ready task that is high enough", n), join(ready(2, 1), is(own.Waits, y)), 1, api.Abort, stays(2, 1), waits(2, y), []step{none}),
			walk(fmt.Sprintf("a child %d of a child", n), join(waiting(2, 0, 4), is(last.Waits, y), is(last.State, 1)), 2, api.Abort, climbs(2, 0, 2, 4), rises(4, 0, 2), state(4, 1), enters(4, 2, 0, 0, 0), waits(4, y), []step{none}),
		)
	}
	return l
}

// P19.2 and R7: any worker. One that does not exist has no deque, and one without places is full.
func walkWorkers() []steptest.Way {
	var l []steptest.Way
	for _, worker := range noNumbers(home.Workers) {
		raised := risesIn(home, worker, 2, 0, 1)
		l = append(l,
			walkIn(home, "ready", ready(2, 0), worker, 2, 1, api.Fine, raised, state(2, 1), noRoomIn([]step{none, none}, worker, 2, 1), waits(2, 0)),
			walkIn(home, "ready, with a child", join(ready(2, 0), is(own.Waits, 5)), worker, 2, 1, api.Fine, raised, state(2, 1), noRoomIn([]step{none, none}, worker, 2, 1), waits(2, 5), risesIn(home, worker, 4, 0, 1), state(4, 0), waits(4, 0)),
			walkIn(home, "not ready", nil, worker, 2, 1, api.Fine, raised, state(2, 0), waits(2, 0)),
			walkIn(home, "high enough", ready(2, 1), worker, 2, 1, api.Fine, stays(2, 1), waits(2, 0)),
		)
	}
	return l
}

// P19.2: what other machines put into cells between the lines of one task, and in the middle of the inner Raise.
func walkOthers() []steptest.Way {
	end, at := waits(2, 0), state(2, api.Ready)
	up, push := rises(2, 0, 1), enters(2, 1, 0, 0, 0)
	return []steptest.Way{
		walk("the level is reached before line 1", ready(2, 0), 1, api.Fine, []step{stays(2, 1)[0].After(own.Level, 1)}, end),
		walk("another one raises it as far", ready(2, 0), 1, api.Fine, fails(2, 0, 1), stays(2, 1), end),
		walk("another one raises it farther", ready(2, 0), 1, api.Fine, fails(2, 0, 2), stays(2, 2), end),
		walk("another one raises it less far", ready(2, 0), 2, api.Fine, fails(2, 0, 1), rises(2, 1, 2), at, enters(2, 2, 0, 0, 0), end),
		walk("the CAS fails three times", ready(2, 0), 2, api.Fine, fails(2, 0, 1), fails(2, 1, 0), fails(2, 0, 1), rises(2, 1, 2), at, enters(2, 2, 0, 0, 0), end),
		walk("another one raises it behind line 1", ready(2, 0), 1, api.Fine, up, []step{at[0].After(own.Level, 2)}, push, end),
		walk("another one raises it behind line 2", ready(2, 0), 1, api.Fine, up, at, []step{push[0].After(own.Level, 2)}, push[1:], end),
		walk("another one claims it before line 1", ready(2, 0), 1, api.Fine, []step{up[0].After(own.State, api.Running), up[1]}, state(2, api.Running), end),
		walk("another one claims it before line 2", ready(2, 0), 1, api.Fine, up, []step{state(2, api.Running)[0].After(own.State, api.Running)}, end),
		walk("another one claims it before line 3", ready(2, 0), 1, api.Fine, up, at, []step{push[0].After(own.State, api.Running)}, push[1:], end),
		walk("it becomes ready before line 2", nil, 1, api.Fine, up, []step{at[0].After(own.State, api.Ready)}, push, end),
		walk("it becomes ready in the middle of line 1", nil, 1, api.Fine, []step{up[0], up[1].After(own.State, api.Ready)}, at, push, end),
		walk("it becomes ready before line 4", nil, 1, api.Fine, up, state(2, 0), []step{end[0].After(own.State, api.Ready)}),
		walk("it waits before line 1", ready(2, 0), 1, api.Fine, []step{up[0].After(own.Waits, 1), up[1]}, at, push, waits(2, 1), rises(0, 0, 1), state(0, 0), waits(0, 0)),
		walk("it waits before line 4", ready(2, 0), 1, api.Fine, up, at, push, []step{waits(2, 5)[0].After(own.Waits, 5)}, rises(4, 0, 1), state(4, 0), waits(4, 0)),
		walk("it waits no longer before line 4", waiting(2, 0, 4), 1, api.Fine, up, state(2, api.Blocked), []step{end[0].After(own.Waits, 0)}),
		walk("it waits for another one before line 4", waiting(2, 0, 4), 1, api.Fine, up, state(2, api.Blocked), []step{waits(2, 1)[0].After(own.Waits, 1)}, rises(0, 0, 1), state(0, 0), waits(0, 0)),
		walk("it waits for what is no task before line 4", nil, 1, api.Abort, up, state(2, 0), []step{waits(2, 99)[0].After(own.Waits, 99), none}),
		walk("it waits for another one behind line 4", waiting(2, 0, 4), 1, api.Fine, up, state(2, api.Blocked), waits(2, 5), []step{rises(4, 0, 1)[0].After(own.Waits, 1), rises(4, 0, 1)[1]}, state(4, 0), waits(4, 0)),
		walk("time goes on", ready(2, 0), 1, api.Fine, []step{up[0].Later(1), up[1].Later(2), at[0].Later(3), push[0].Later(4)}, push[1:], []step{end[0].Later(5)}),
	}
}

// P19.2: what other machines put into cells in the middle of the inner Push.
func walkPushOthers() []steptest.Way {
	first := join(rises(2, 0, 1), state(2, api.Ready))
	push, end := enters(2, 1, 0, 0, 0), waits(2, 0)
	full := join(ready(2, 0), has(middle, 4, 1, 3))
	return []steptest.Way{
		walk("the deque is full before line 3", ready(2, 0), 1, api.Fine, first, []step{load(middle.Bottom, 2).After(middle.Bottom, 2), noRoom(2, 1, 2, 0)[1]}, end),
		walk("a thief takes an entry before line 3", full, 1, api.Fine, first, []step{load(middle.Bottom, 6).After(middle.Top, 5)}, enters(2, 1, 6, 5, 0)[1:2], []step{steptest.Store(middle.Ring, 1, 2), steptest.Store(middle.Bottom, 6, 7), push[4]}, end),
		walk("a thief takes an entry in the middle of line 3", full, 1, api.Fine, first, []step{load(middle.Bottom, 6), load(middle.Top, 5).After(middle.Top, 5), steptest.Store(middle.Ring, 1, 2), steptest.Store(middle.Bottom, 6, 7), push[4]}, end),
		walk("a thief takes an entry too late", full, 1, api.Fine, first, noRoom(2, 1, 6, 4), []step{end[0].After(middle.Top, 5)}),
		walk("the task is claimed in the middle of line 3", ready(2, 0), 1, api.Fine, first, push[:2], []step{push[2].After(own.State, api.Running)}, push[3:], end),
		walk("the level rises in the middle of line 3", ready(2, 0), 1, api.Fine, first, push[:3], []step{push[3].After(own.Level, 2)}, push[4:], end),
		walk("the bit is set before the last step of line 3", ready(2, 0), 1, api.Fine, first, push[:4], []step{enters(2, 1, 0, 0, 7)[4].After(bits, 7)}, end),
		walk("the task waits before the last step of line 3", ready(2, 0), 1, api.Fine, first, push[:4], []step{push[4].After(own.Waits, 4)}, waits(2, 4), rises(3, 0, 1), state(3, 0), waits(3, 0)),
		walk("the task waits while the deque is full", full, 1, api.Fine, first, []step{load(middle.Bottom, 6), noRoom(2, 1, 6, 4)[1].After(own.Waits, 4)}, waits(2, 4), rises(3, 0, 1), state(3, 0), waits(3, 0)),
	}
}

// P19.2: every worker and every level, for the first and the last task, which wait for nothing.
func walkEverywhere(c api.Config) []steptest.Way {
	var l []steptest.Way
	for worker := range c.Workers {
		for level := range c.Levels {
			for _, task := range []int{0, c.Tasks - 1} {
				r := rowOf(c, task)
				puts := join(beside(c, task), is(r.State, api.Ready), is(r.Level, top))
				first, end := append(risesIn(c, worker, task, top, level), load(r.State, api.Ready)), []step{load(r.Waits, 0)}
				looks := steptest.Looks(dequeOf(c, worker, level), uint64(c.Deque), 0)
				l = append(l,
					walkIn(c, "an empty deque", puts, worker, task, level, api.Fine, first, steptest.Enters(c, worker, level, 0, 0, uint64(task), 0), end),
					walkIn(c, "a full deque", join(puts, is(dequeOf(c, worker, level).Bottom, uint64(c.Deque))), worker, task, level, api.Fine, first, noRoomIn(looks, worker, task, level), end),
				)
			}
		}
	}
	return l
}

// P19.2: a chain of all tasks, from the last one to the first one.
func walkAll(c api.Config) steptest.Way {
	var puts []put
	var steps []step
	level := c.Levels - 1
	for task := c.Tasks - 1; task >= 0; task-- {
		r := rowOf(c, task)
		puts = append(puts, put{Cell: r.State, V: api.Blocked}, put{Cell: r.Level, V: top}, put{Cell: r.Waits, V: uint64(task)})
		steps = join(steps, risesIn(c, 0, task, top, level), []step{load(r.State, api.Blocked), load(r.Waits, uint64(task))})
	}
	return walkIn(c, "a chain of all tasks", puts, 0, c.Tasks-1, level, api.Fine, steps)
}

func TestWalk(t *testing.T) {
	steptest.Check(t, walkLines()...)
	steptest.Check(t, walkStates()...)
	steptest.Check(t, walkLevels()...)
	steptest.Check(t, walkChains()...)
	steptest.Check(t, walkAstray()...)
	steptest.Check(t, walkWorkers()...)
	steptest.Check(t, walkOthers()...)
	steptest.Check(t, walkPushOthers()...)
	for _, c := range sizes() {
		steptest.Check(t, walkEverywhere(c)...)
		steptest.Check(t, walkAll(c))
	}
}

// P19.2 and R1: tasks that wait for one another in a ring, or one that waits for itself. Each step ends, and from the second round on nothing is raised or entered.
func TestRings(t *testing.T) {
	for _, ring := range [][]int{{2}, {2, 4}, {2, 0, 4}, {2, 1, 3, 0, 4}} {
		var puts []put
		for i, task := range ring {
			r := rowOf(home, task)
			puts = join(puts, ready(task, 0), is(r.Waits, uint64(ring[(i+1)%len(ring)])+1))
		}
		e, x := steptest.Made(home, puts...), boost.Walk(1, 2, 2)
		for i, task := range ring {
			steps := join(rises(task, 0, 2), state(task, api.Ready))
			switch i {
			case 0:
				steps = join(steps, enters(task, 2, 0, 0, 0))
			case 1:
				steps = join(steps, enters(task, 2, 1, 0, 4))
			default:
				steps = join(steps, noRoom(task, 2, 2, 0))
			}
			for _, s := range join(steps, waits(task, uint64(ring[(i+1)%len(ring)])+1)) {
				steptest.CheckStep(t, fmt.Sprintf("the ring %d, the first round", ring), e, x, s, false)
			}
		}
		for range 50 {
			for i, task := range ring {
				for _, s := range join(stays(task, 2), waits(task, uint64(ring[(i+1)%len(ring)])+1)) {
					steptest.CheckStep(t, fmt.Sprintf("the ring %d, a later round", ring), e, x, s, false)
				}
			}
		}
		// The walk comes to an end when another machine opens the ring.
		task := ring[0]
		steptest.CheckStep(t, "the last round", e, x, stays(task, 2)[0], false)
		steptest.CheckStep(t, "the end", e, x, waits(task, 0)[0].After(rowOf(home, task).Waits, 0), true)
		steptest.CheckResult(t, "the end", x, api.Fine, 0)
	}
}

// ways returns ways of all machines.
func ways() []steptest.Way {
	few := sized(2, 2, 3, 1)
	return join(
		raiseLevels(), raiseBeside(), raiseWorkers(), raiseOthers(), raiseEverywhere(few), noArguments(few),
		walkLines(), walkStates(), walkLevels(), walkChains(), walkAstray(), walkWorkers(), walkOthers(), walkPushOthers(), walkEverywhere(few), []steptest.Way{walkAll(few)},
	)
}

// The copy of a machine behind each of its lines, in the middle of the inner Raise and of the inner Push, and of one that is done, continues independently, whichever goes on first.
func TestCopies(t *testing.T) { steptest.CheckCopies(t, ways()...) }

// R6: a machine is given to a copy of its environment before each step. What it leaves stays as it is, and what happens there since is nothing to it.
func TestCopiedEnvironments(t *testing.T) { steptest.CheckMoves(t, ways()...) }

// R2 and R6: machines of equal calls behave equally in equal environments, and do not disturb one another.
func TestEqualCalls(t *testing.T) { steptest.CheckPairs(t, ways()...) }

// R6: a Raise goes on in the environment of another configuration, whose cells are others. What it has loaded stays with it, and what is there at the beginning of line 1 tells whether there is such a task and such a level.
func TestRaiseElsewhere(t *testing.T) {
	few, many, flat := sized(1, 3, 2, 1), sized(3, 4, 6, 3), sized(2, 2, 5, 2)
	other := rowOf(many, 2)
	e, f, g, h := steptest.Made(home), steptest.Made(few), steptest.Made(many, is(other.Level, 1)...), steptest.Made(flat)
	x := boost.Raise(1, 2, 2)
	steptest.CheckStep(t, "line 1", e, x, load(own.Level, 0), false)
	y := x.Copy()
	steptest.CheckStep(t, "line 2 with many tasks", g, x, cas(other.Level, 1, 1), false)
	steptest.CheckStep(t, "line 1 with many tasks", g, x, load(other.Level, 1), false)
	steptest.CheckStep(t, "line 2 at home, where the level is 1 as well", e, x, says(cas(own.Level, 1, 2), api.EvBoost, 1, 2, 2).After(own.Level, 1), true)
	steptest.CheckResult(t, "Raise", x, api.Got, 0)
	steptest.CheckStep(t, "line 2 with few tasks", f, y, none, false)
	for what, other := range map[string]*machine.Env{"few tasks": f, "few levels": h} {
		z := y.Copy()
		steptest.CheckStep(t, "line 1 with "+what, other, z, none, true)
		steptest.CheckResult(t, "Raise with "+what, z, api.Abort, 0)
	}
	steptest.CheckStep(t, "line 1 at home again", e, y, load(own.Level, 2), true)
	steptest.CheckResult(t, "Raise at home", y, api.Fine, 0)
}

// R6: a Walk goes on in the environment of another configuration. Whether there is such a task and such a level is asked at the beginning of line 1 alone.
func TestWalkElsewhere(t *testing.T) {
	few, flat, many := sized(1, 3, 2, 1), sized(2, 2, 5, 2), sized(3, 4, 6, 3)
	f, g, h := steptest.Made(few), steptest.Made(flat), steptest.Made(many)
	begun := func(steps int) (*machine.Env, machine.Machine) {
		w := walk("elsewhere", join(waiting(2, 0, 4), ready(4, 0)), 2, api.Fine, climbs(2, 0, 2, 4), rises(4, 0, 2), state(4, api.Ready))
		return w.Begun(steps)
	}
	// Behind line 4 the next step is the beginning of line 1 for task 4.
	for what, other := range map[string]*machine.Env{"few tasks": f, "few levels": g} {
		_, x := begun(4)
		steptest.CheckStep(t, "the beginning of line 1 with "+what, other, x, none, true)
		steptest.CheckResult(t, "Walk with "+what, x, api.Abort, 0)
	}
	// In the middle of line 1 it is the Raise that goes on.
	e, x := begun(5)
	steptest.CheckStep(t, "the middle of line 1 with few tasks", f, x, none, false)
	steptest.CheckStep(t, "line 1 at home again", e, x, load(last.Level, 0), false)
	steptest.CheckStep(t, "the end of line 1", e, x, says(cas(last.Level, 0, 2), api.EvBoost, 1, 4, 2), false)
	y := x.Copy()
	steptest.CheckStep(t, "line 2 with few tasks", f, y, none, false)
	steptest.CheckStep(t, "line 4 with few tasks", f, y, none, true)
	steptest.CheckResult(t, "Walk with few tasks", y, api.Fine, 0)
	// The deque of line 3 is that of the environment in which it begins.
	other := rowOf(many, 4)
	steptest.CheckStep(t, "line 2 with many levels", h, x, load(other.State, 1).After(other.State, 1), false)
	for _, s := range steptest.Enters(many, 1, 2, 0, 0, 4, 0) {
		steptest.CheckStep(t, "line 3 with many levels", h, x, s, false)
	}
	steptest.CheckStep(t, "line 4 with many levels", h, x, load(other.Waits, 0), true)
	steptest.CheckResult(t, "Walk with many levels", x, api.Fine, 0)
}

// A Raise that finds in the middle of a Walk that its task is gone is an inner machine without the code Got: the Walk goes on with line 4.
func TestTaskIsGone(t *testing.T) {
	e, f := steptest.Made(home), steptest.Made(sized(1, 3, 2, 1))
	x := boost.Walk(1, 2, 2)
	steptest.CheckStep(t, "line 1", e, x, load(own.Level, 0), false)
	steptest.CheckStep(t, "line 2 of the Raise with few tasks", f, x, none, false)
	steptest.CheckStep(t, "line 1 of the Raise with few tasks", f, x, none, false)
	steptest.CheckStep(t, "line 4 at home", e, x, load(own.Waits, 0), true)
	steptest.CheckResult(t, "Walk", x, api.Fine, 0)
}

// R1: every argument is accepted, in every order of the numbers, and every machine is done after a few steps.
func TestArguments(t *testing.T) {
	numbers := []int{0, 1, 2, 3, 4, 5, 63, 64, 255, 256, -1, -2, math.MaxInt, math.MaxInt - 1, math.MinInt, math.MinInt + 1, 1 << 32, -1 << 32, 1 << 62}
	for _, a := range numbers {
		for _, b := range numbers {
			for _, c := range numbers {
				for _, x := range []machine.Machine{boost.Raise(a, b, c), boost.Walk(a, b, c)} {
					e := steptest.Made(home, ready(2, 0)...)
					if n, done := machine.Run(e, x, 99); !done || n > 9 {
						t.Errorf("%T for %d, %d and %d: %d steps, done is %t", x, a, b, c, n, done)
					}
				}
			}
		}
	}
}

// The chapter's examples.
func TestExamples(t *testing.T) {
	e := steptest.Made(home)
	for i, want := range []struct{ steps, code int }{{2, api.Got}, {1, api.Fine}} {
		x := boost.Raise(0, 2, 2)
		if n, done := machine.Run(e, x, 9); n != want.steps || !done {
			t.Errorf("example 1: Raise number %d takes %d steps, done is %t", i+1, n, done)
		}
		steptest.CheckResult(t, "example 1", x, want.code, 0)
	}
	e = steptest.Made(home, ready(2, 0)...)
	x := boost.Walk(1, 2, 2)
	if n, done := machine.Run(e, x, 99); n != 2+1+5+1 || !done {
		t.Errorf("example 2: Walk takes %d steps, done is %t", n, done)
	}
	steptest.CheckResult(t, "example 2", x, api.Fine, 0)
	if m := e.Memory; m.Peek(own.Level) != 2 || m.Peek(high.Bottom) != 1 || m.Peek(high.Ring) != 2 || m.Peek(bits) != 4 {
		t.Errorf("example 2: the cells are %v", m.Cells())
	}
}
