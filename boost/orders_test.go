package boost_test

import (
	"fmt"
	"slices"
	"testing"

	"worksteal/api"
	"worksteal/boost"
	"worksteal/machine"
	"worksteal/steptest"
	"worksteal/table"
)

// passed is the kind of the event of a noted machine that has passed a task. It is no kind of the program.
const passed = 99

// A noted machine is a Walk that emits an event of this kind with the step that loads what a task waits for, so that the events tell the tasks that it has passed.
type noted struct {
	machine.Machine
	worker, level int
}

// walks returns a Walk that is noted.
func walks(worker, task, level int) machine.Machine {
	return &noted{boost.Walk(worker, task, level), worker, level}
}

func (n *noted) Step(e *machine.Env) bool {
	count := e.Memory.Count()
	done := n.Machine.Step(e)
	if last := e.Memory.Last(); e.Memory.Count() > count && last.Kind == api.AccessLoad {
		for task := range e.Config.Tasks {
			if last.Cell == rowOf(e.Config, task).Waits {
				e.Emit(api.Event{Kind: passed, Worker: n.worker, Task: task, Level: n.level})
			}
		}
	}
	return done
}

func (n *noted) Copy() machine.Machine { return &noted{n.Machine.Copy(), n.worker, n.level} }

// levelsOf returns the contents of all Level cells.
func levelsOf(e *machine.Env) []int {
	var l []int
	for task := range e.Config.Tasks {
		l = append(l, int(e.Memory.Peek(rowOf(e.Config, task).Level)))
	}
	return l
}

// checkBoosts reports an error if the events of a scene say that a level has fallen, if the levels are not those that the events say, or if a task that a Walk has passed was below the level of the Walk.
func checkBoosts(t *testing.T, s steptest.Scene, start []int) {
	t.Helper()
	now := slices.Clone(start)
	for _, v := range s.Env.Events[1:] {
		switch {
		case v.Kind == api.EvBoost && v.Level > now[v.Task]:
			now[v.Task] = v.Level
		case v.Kind == api.EvBoost, v.Kind == passed && now[v.Task] < v.Level:
			t.Errorf("the levels are %v before %v", now, v)
		}
	}
	if g := levelsOf(s.Env); !slices.Equal(g, now) {
		t.Errorf("the levels are %v, by the events %v", g, now)
	}
}

// checkWalks reports an error if a Walk of a scene that is over has not come to the end of its chain, as it stands in a scene in which nobody changes what tasks wait for.
func checkWalks(t *testing.T, s steptest.Scene, starts []int) {
	t.Helper()
	for worker, task := range starts {
		if len(s.Actors[worker].Results) == 0 || s.Actors[worker].Results[0].Code != api.Fine {
			t.Errorf("the results of actor %d are %v", worker, s.Actors[worker].Results)
		}
		for y := task + 1; y != 0; y = int(s.Env.Memory.Peek(rowOf(s.Env.Config, y-1).Waits)) {
			if !slices.ContainsFunc(s.Env.Events, func(v api.Event) bool { return v.Kind == passed && v.Worker == worker && v.Task == y-1 }) {
				t.Errorf("actor %d has not passed task %d, by the events %v", worker, y-1, s.Env.Events)
			}
		}
	}
}

// one returns a list of one machine.
func one(x machine.Machine) []machine.Machine { return []machine.Machine{x} }

// The chapter's consequences: all orders of Walks and Raises that meet on a chain of tasks. No level falls, and what a Walk has passed has its level.
func TestOrders(t *testing.T) {
	chain := join(waiting(2, 0, 4), ready(4, 0))
	three := join(waiting(2, 0, 4), waiting(4, 1, 0), ready(0, 0))
	for i, x := range []struct {
		puts []put
		// starts are where the first actors walk from.
		starts []int
		actors [][]machine.Machine
	}{
		{chain, []int{2, 2}, [][]machine.Machine{one(walks(0, 2, 1)), one(walks(1, 2, 2))}},
		{chain, []int{2, 2}, [][]machine.Machine{one(walks(0, 2, 2)), one(walks(1, 2, 2))}},
		{chain, []int{2, 4}, [][]machine.Machine{one(walks(0, 2, 2)), one(walks(1, 4, 1))}},
		{chain, []int{2}, [][]machine.Machine{one(walks(0, 2, 1)), one(boost.Raise(1, 4, 2)), one(boost.Raise(2, 2, 2))}},
		{chain, []int{2}, [][]machine.Machine{one(walks(0, 2, 2)), {boost.Raise(1, 4, 1), boost.Raise(1, 2, 1)}, one(table.Claim(1, 4))}},
		{three, []int{2, 4}, [][]machine.Machine{one(walks(0, 2, 2)), one(walks(1, 4, 2))}},
		{three, []int{0, 2}, [][]machine.Machine{one(walks(0, 0, 1)), one(walks(1, 2, 2))}},
		{ready(4, 0), nil, [][]machine.Machine{{boost.Raise(0, 4, 1), boost.Raise(0, 4, 2)}, {boost.Raise(1, 4, 2), boost.Raise(1, 4, 1)}, one(boost.Raise(2, 4, 1))}},
	} {
		e := steptest.Made(home, x.puts...)
		start, ends := levelsOf(e), map[string]bool{}
		steptest.Orders(steptest.Play(e, x.actors...), func(s steptest.Scene) {
			checkBoosts(t, s, start)
			if s.Over() {
				checkWalks(t, s, x.starts)
				ends[fmt.Sprint(s.Env.Events)] = true
			}
		})
		if len(ends) < 3 {
			t.Errorf("scene %d has only the ends %v", i, ends)
		}
	}
}

// P19.2: in all orders of two Walks that come to a ready task which nobody claims, each of those that have raised it has entered it, and no other one.
func TestEntries(t *testing.T) {
	entries := map[string]bool{}
	e := steptest.Made(home, ready(4, 0)...)
	steptest.Orders(steptest.Play(e, one(boost.Walk(0, 4, 1)), one(boost.Walk(1, 4, 2))), func(s steptest.Scene) {
		if !s.Over() {
			return
		}
		for worker := range 2 {
			want := uint64(0)
			if slices.Contains(s.Env.Events, api.Event{Kind: api.EvBoost, Worker: worker, Task: 4, Level: worker + 1}) {
				want = 1
			}
			q := dequeOf(home, worker, worker+1)
			if m := s.Env.Memory; m.Peek(q.Bottom) != want || m.Peek(q.Ring) != 4*want || m.Peek(bitsOf(home, worker)) != want<<(worker+1) {
				t.Errorf("the cells are %v behind the events %v", m.Cells(), s.Env.Events)
			}
		}
		entries[fmt.Sprint(s.Env.Events)] = true
	})
	// The Walk to the higher level raises the task alone, or behind the other one.
	if len(entries) != 2 {
		t.Errorf("the ends have the events %v", entries)
	}
}

// A joiner lets a task wait for a child and boosts it, as a worker does before it gives a task up: it stores what the task waits for, loads the level of the task, and walks.
type joiner struct {
	worker, task, child, line int
	walk                      machine.Machine
}

func (j *joiner) Step(e *machine.Env) bool {
	r := rowOf(e.Config, j.task)
	j.line++
	switch j.line {
	case 1:
		e.Memory.Store(r.Waits, uint64(j.child)+1)
		return false
	case 2:
		j.walk = boost.Walk(j.worker, j.child, int(e.Memory.Load(r.Level)))
		return false
	}
	return j.walk.Step(e)
}

func (j *joiner) Result() (code, value int) { return 0, 0 }

func (j *joiner) Copy() machine.Machine {
	c := *j
	if c.walk != nil {
		c.walk = c.walk.Copy()
	}
	return &c
}

// Why the cells are accessed in this order: in all orders of tasks that begin to wait for one another in a chain, each of them has at last the greatest level of those that wait for it.
func TestJoinOrders(t *testing.T) {
	joins := func(worker, task, child int) []machine.Machine {
		return one(&joiner{worker: worker, task: task, child: child})
	}
	for i, x := range []struct {
		puts   []put
		actors [][]machine.Machine
		want   []int
	}{
		{is(own.Level, 2), [][]machine.Machine{joins(0, 2, 4), joins(1, 4, 0)}, []int{2, 0, 2, 0, 2}},
		{join(is(own.Level, 1), is(last.Level, 2)), [][]machine.Machine{joins(0, 2, 4), joins(1, 4, 0)}, []int{2, 0, 1, 0, 2}},
		{join(is(own.Level, 1), is(first.Level, 2)), [][]machine.Machine{joins(0, 2, 4), joins(1, 0, 4)}, []int{2, 0, 1, 0, 2}},
		{join(is(own.Level, 1), ready(0, 0)), [][]machine.Machine{joins(0, 2, 4), joins(1, 4, 0)}, []int{1, 0, 1, 0, 1}},
		{is(own.Level, 1), [][]machine.Machine{joins(0, 2, 4), joins(1, 4, 0), one(boost.Raise(1, 2, 1))}, []int{1, 0, 1, 0, 1}},
	} {
		ends := map[string]bool{}
		steptest.Orders(steptest.Play(steptest.Made(home, x.puts...), x.actors...), func(s steptest.Scene) {
			if !s.Over() {
				return
			}
			ends[fmt.Sprint(s.Env.Events)] = true
			if g := levelsOf(s.Env); !slices.Equal(g, x.want) {
				t.Errorf("scene %d: the levels are %v, want %v", i, g, x.want)
			}
		})
		if len(ends) == 0 {
			t.Errorf("scene %d has no end", i)
		}
	}
}

// The chapter's consequences: long orders of many machines on one chain of all tasks, in a greater configuration.
func TestLongOrders(t *testing.T) {
	c := sized(4, 9, 12, 2)
	for seed := range 30 {
		some := steptest.Mixed(uint64(seed))
		var puts []put
		for task := range c.Tasks {
			r := rowOf(c, task)
			puts = join(puts, is(r.State, uint64(some(5))), is(r.Level, uint64(some(3))), is(r.Waits, uint64((task+2+some(2))*(1-task/10))))
		}
		s := steptest.Play(steptest.Made(c, puts...))
		start := levelsOf(s.Env)
		for worker := range 5 {
			var l []machine.Machine
			for range 10 {
				l = append(l, walks(worker, some(c.Tasks), some(c.Levels)), boost.Raise(worker, some(c.Tasks), some(c.Levels)))
			}
			s.Actors = append(s.Actors, steptest.Actor{Left: l})
		}
		s = steptest.Order(s, some)
		checkBoosts(t, s, start)
		for _, a := range s.Actors {
			for _, r := range a.Results {
				if r.Code != api.Fine && r.Code != api.Got || r.Value != 0 {
					t.Errorf("seed %d: the results of an actor are %v", seed, a.Results)
				}
			}
		}
	}
}
