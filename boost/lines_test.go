package boost_test

import (
	"fmt"
	"slices"
	"testing"

	"worksteal/api"
	"worksteal/boost"
	"worksteal/levels"
	"worksteal/machine"
	"worksteal/steptest"
)

// A call is one of the functions, with its arguments.
type call struct {
	walk                bool
	worker, task, level int
}

// machine returns the machine of a call.
func (c call) machine() machine.Machine {
	if c.walk {
		return boost.Walk(c.worker, c.task, c.level)
	}
	return boost.Raise(c.worker, c.task, c.level)
}

// perform performs the lines of a call one after another, as the chapter writes them down, while no other machine does anything, and returns the code.
func (c call) perform(e *machine.Env) int {
	if c.walk {
		return c.performWalk(e)
	}
	return c.performRaise(e)
}

// is reports whether there are such a task and such a level.
func (c call) is(e *machine.Env) bool {
	return 0 <= c.task && c.task < e.Config.Tasks && 0 <= c.level && c.level < e.Config.Levels
}

func (c call) performRaise(e *machine.Env) int {
	if !c.is(e) {
		return api.Abort
	}
	cell := rowOf(e.Config, c.task).Level
	q := e.Memory.Load(cell)
	if int(q) >= c.level {
		return api.Fine
	}
	e.Memory.CAS(cell, q, uint64(c.level))
	c.emit(e, api.EvBoost)
	return api.Got
}

func (c call) emit(e *machine.Env, kind int) {
	e.Emit(api.Event{Kind: kind, Worker: c.worker, Task: c.task, Level: c.level})
}

func (c call) performWalk(e *machine.Env) int {
	for c.is(e) {
		r := rowOf(e.Config, c.task)
		if c.performRaise(e) == api.Got && e.Memory.Load(r.State) == api.Ready {
			x := levels.Push(c.worker, c.level, c.task)
			machine.Run(e, x, 99)
			if code, _ := x.Result(); code == api.Full {
				c.emit(e, api.EvNoRoom)
			}
		}
		y := e.Memory.Load(r.Waits)
		if y == 0 {
			return api.Fine
		}
		c.task = int(y) - 1
	}
	return api.Abort
}

// disturb lets some task be in some state, at some level, and wait for a greater one or for a number that is none; the entries of some worker and level are gone now and then.
func disturb(e *machine.Env, some func(n int) int) []put {
	c := e.Config
	task := some(c.Tasks)
	r := rowOf(c, task)
	l := is(r.State, uint64(some(5)))
	if some(3) > 0 {
		l = append(l, put{Cell: r.Level, V: uint64(some(c.Levels+2)) - 1})
	}
	switch child := task + 1 + some(c.Tasks-task); {
	case child < c.Tasks:
		l = append(l, put{Cell: r.Waits, V: uint64(child) + 1})
	case some(3) > 0:
		l = append(l, put{Cell: r.Waits})
	default:
		l = append(l, put{Cell: r.Waits, V: []uint64{uint64(c.Tasks) + 1, top, half, half + 1, 1 << 32}[some(5)]})
	}
	if some(3) == 0 {
		q := dequeOf(c, some(c.Workers), some(c.Levels))
		l = append(l, put{Cell: q.Top, V: e.Memory.Peek(q.Bottom)})
	}
	return l
}

// P19.1 and P19.2: long lists of calls on one table, with numbers that are now and then none, beside the same lines without machines. Both have the same codes and accesses, and all cells and events are the same.
func TestLines(t *testing.T) {
	codes := map[string]int{}
	for seed, c := range slices.Repeat(sizes()[:4], 10) {
		some := steptest.Mixed(uint64(seed))
		e := steptest.Made(c)
		f := e.Copy()
		for i := range 200 {
			for _, p := range disturb(e, some) {
				e.Memory.Store(p.Cell, p.V)
				f.Memory.Store(p.Cell, p.V)
			}
			x := call{some(3) > 0, some(c.Workers+2) - 1, some(c.Tasks+1) - some(5)/4, some(c.Levels+1) - some(5)/4}
			y := x.machine()
			_, done := machine.Run(e, y, 1000)
			code, value := y.Result()
			want := x.perform(f)
			codes[fmt.Sprint(x.walk, code)]++
			if !done || code != want || value != 0 || e.Memory.Last() != f.Memory.Last() || e.Memory.Count() != f.Memory.Count() || !slices.Equal(e.Memory.Cells(), f.Memory.Cells()) || !slices.Equal(e.Events, f.Events) {
				t.Fatalf("seed %d, call %d, %v: %d, %d, want %d, 0; the events are %v, want %v", seed, i, x, code, value, want, e.Events, f.Events)
			}
		}
	}
	// Each function has come to each of its ends.
	if len(codes) != 3+2 {
		t.Errorf("only the codes %v occur", codes)
	}
}
