// Package steptest checks step machines in tests: it lets them perform steps, and reports what they do wrong. No other package of the program imports it; only tests do.
package steptest

import (
	"slices"
	"strconv"

	"worksteal/api"
	"worksteal/config"
	"worksteal/machine"
)

// T is what faults are reported to: a *testing.T. It is named here so that package testing stays outside the program.
type T interface {
	Helper()
	Errorf(format string, args ...any)
}

// Put is what another machine puts into a cell.
type Put struct {
	Cell int
	V    uint64
}

// Write is what a step of a machine makes of the record of a task.
type Write struct {
	Task   int
	Record api.Record
}

// Step is what a step of a machine must do: its access, which is the zero value if there must be none, the events that it emits, and the records that it writes, behind what another machine puts into cells and the ticks of the clock before it.
type Step struct {
	Access api.Access
	Events []api.Event
	Writes []Write
	Puts   []Put
	Ticks  int
}

// None returns a step without an access.
func None() Step { return Step{} }

// Load returns a Load of a cell that contains v.
func Load(cell int, v uint64) Step { return access(api.AccessLoad, cell, v, v) }

// Store returns a Store to a cell.
func Store(cell int, old, v uint64) Step { return access(api.AccessStore, cell, old, v) }

// CAS returns a CAS, which has failed if old and v are equal.
func CAS(cell int, old, v uint64) Step { return access(api.AccessCAS, cell, old, v) }

// Or returns an Or, before which the cell contains old, and v behind it.
func Or(cell int, old, v uint64) Step { return access(api.AccessOr, cell, old, v) }

// And returns an And, before which the cell contains old, and v behind it.
func And(cell int, old, v uint64) Step { return access(api.AccessAnd, cell, old, v) }

// Add returns an Add, before which the cell contains old, and v behind it.
func Add(cell int, old, v uint64) Step { return access(api.AccessAdd, cell, old, v) }

// access returns a step with an access.
func access(kind, cell int, old, v uint64) Step {
	return Step{Access: api.Access{Kind: kind, Cell: cell, Old: old, New: v}}
}

// After returns the step behind one more put.
func (s Step) After(cell int, v uint64) Step {
	s.Puts = append(slices.Clone(s.Puts), Put{cell, v})
	return s
}

// Emits returns the step with one more event.
func (s Step) Emits(v api.Event) Step {
	s.Events = append(slices.Clone(s.Events), v)
	return s
}

// Sets returns the step with one more record that it writes.
func (s Step) Sets(task int, r api.Record) Step {
	s.Writes = append(slices.Clone(s.Writes), Write{task, r})
	return s
}

// Later returns the step behind some more ticks.
func (s Step) Later(ticks int) Step {
	s.Ticks += ticks
	return s
}

// prepare performs the puts and the ticks of a step.
func (s Step) prepare(e *machine.Env) {
	for _, p := range s.Puts {
		e.Memory.Store(p.Cell, p.V)
	}
	for range s.Ticks {
		e.Clock.Tick()
	}
}

// beside lets an environment be, but for its memory, as it is behind the step.
func (s Step) beside(e *machine.Env) {
	e.Events = append(e.Events, s.Events...)
	for _, w := range s.Writes {
		e.Records[w.Task] = w.Record
	}
}

// Way is a way of a machine through its lines: the environment at first (a bare one with the cells if it is nil), the call that makes the machine, what the steps must do, and the result.
type Way struct {
	What        string
	Env         *machine.Env
	Cells       []uint64
	Make        func() machine.Machine
	Steps       []Step
	Code, Value int
}

// Filled returns a bare environment with cells, an event and a clock that has ticked.
func Filled(cells []uint64) *machine.Env {
	e := machine.Bare(len(cells))
	for i, v := range cells {
		e.Memory.Store(i, v)
	}
	return used(e)
}

// Made returns an environment of a valid configuration, behind puts into its cells, with an event and a clock that has ticked.
func Made(c api.Config, puts ...Put) *machine.Env {
	e, _ := machine.New(c)
	Step{Puts: puts}.prepare(e)
	return used(e)
}

// used returns an environment with an event more and a clock that has ticked.
func used(e *machine.Env) *machine.Env {
	e.Clock.Tick()
	e.Emit(api.Event{Kind: api.EvPark, Worker: 3})
	return e
}

// CheckResult reports a fault if a machine does not have a result.
func CheckResult(t T, what string, x machine.Machine, code, value int) {
	t.Helper()
	if c, v := x.Result(); c != code || v != value {
		t.Errorf("%s: the result is %d and %d, want %d and %d", what, c, v, code, value)
	}
}

// CheckStep lets a machine perform a step, and reports a fault if it does not do what it must, or anything else.
func CheckStep(t T, what string, e *machine.Env, x machine.Machine, s Step, done bool) {
	t.Helper()
	s.prepare(e)
	before := e.Copy()
	cells, count, last := before.Memory.Cells(), before.Memory.Count(), before.Memory.Last()
	if s.Access.Kind != api.AccessNone {
		count, last = count+1, s.Access
		cells[last.Cell] = last.New
	}
	if d := x.Step(e); d != done {
		t.Errorf("%s: Step returns %t, want %t", what, d, done)
	}
	if e.Memory.Count() != count || e.Memory.Last() != last {
		t.Errorf("%s: access number %d is %v, want number %d, %v", what, e.Memory.Count(), e.Memory.Last(), count, last)
	}
	if g := e.Memory.Cells(); !slices.Equal(g, cells) {
		t.Errorf("%s: the cells are %v, want %v", what, g, cells)
	}
	s.beside(before)
	checkBeside(t, what, e, before)
}

// checkBeside reports a fault if two environments differ in more than their memories.
func checkBeside(t T, what string, e, want *machine.Env) {
	t.Helper()
	if !config.Equal(e.Config, want.Config) || e.Layout != want.Layout {
		t.Errorf("%s: the configuration or the layout has changed", what)
	}
	if *e.Clock != *want.Clock {
		t.Errorf("%s: the clock is %v, want %v", what, *e.Clock, *want.Clock)
	}
	if !slices.EqualFunc(e.Records, want.Records, sameRecord) {
		t.Errorf("%s: the records are %v, want %v", what, e.Records, want.Records)
	}
	if !slices.Equal(e.Events, want.Events) {
		t.Errorf("%s: the events are %v, want %v", what, e.Events, want.Events)
	}
}

// sameRecord reports whether two records are equal.
func sameRecord(a, b api.Record) bool {
	return a.Prog == b.Prog && a.Parent == b.Parent && a.PC == b.PC && a.Left == b.Left &&
		a.Waiting == b.Waiting && slices.Equal(a.Kids, b.Kids) && a.Started == b.Started
}

// Check lets the machines of ways perform their steps, and some more when they are done.
func Check(t T, ways ...Way) {
	t.Helper()
	for _, w := range ways {
		x := w.Make()
		if x == nil {
			t.Errorf("%s: the machine is nil", w.What)
			continue
		}
		w.check(t, w.What, w.env(), x, 0)
	}
}

// env returns an environment of its own for a machine of a way.
func (w Way) env() *machine.Env {
	if w.Env != nil {
		return w.Env.Copy()
	}
	return Filled(w.Cells)
}

// check lets a machine that has performed some of the steps of a way perform the others, and some more when it is done.
func (w Way) check(t T, what string, e *machine.Env, x machine.Machine, from int) {
	t.Helper()
	for i := from; i < len(w.Steps); i++ {
		CheckResult(t, what+" before step "+strconv.Itoa(i+1), x, 0, 0)
		CheckStep(t, what+", step "+strconv.Itoa(i+1), e, x, w.Steps[i], i == len(w.Steps)-1)
	}
	for range 3 {
		CheckResult(t, what+", done", x, w.Code, w.Value)
		CheckStep(t, what+", a step when it is done", e, x, None(), true)
	}
	// What becomes of the cells and of the time is nothing to a machine that is done with them.
	s := None().Later(1)
	for i, v := range e.Memory.Cells() {
		s.Puts = append(s.Puts, Put{i, ^v})
	}
	CheckStep(t, what+", a step behind puts", e, x, s, true)
	CheckResult(t, what+", done for long", x, w.Code, w.Value)
}

// CheckCopies checks that the copies of a machine at each of its lines, and of one that is done, continue independently, whichever goes on first.
func CheckCopies(t T, ways ...Way) {
	t.Helper()
	for _, w := range ways {
		for i := range len(w.Steps) + 1 {
			what := w.What + ": " + strconv.Itoa(i) + " steps"
			e, x := w.Begun(i)
			f, y := e.Copy(), x.Copy()
			w.check(t, what+", the original", e, x, i)
			w.check(t, what+", the copy of one that is done since", f, y, i)
			e, x = w.Begun(i)
			f, y = e.Copy(), x.Copy()
			g, z := f.Copy(), y.Copy()
			w.check(t, what+", the copy", f, y, i)
			w.check(t, what+", the copy of the copy", g, z, i)
			w.check(t, what+", the original of one that is done since", e, x, i)
		}
	}
}

// Begun returns the machine of a way behind some of its steps, and its environment.
func (w Way) Begun(steps int) (*machine.Env, machine.Machine) {
	e, x := w.env(), w.Make()
	for _, s := range w.Steps[:steps] {
		s.prepare(e)
		x.Step(e)
	}
	return e, x
}

// most is more steps than any machine makes on the few cells of a test, so that one that is never done is a fault and not the end of the test.
const most = 1000

// CheckEqual lets two machines perform steps in two environments that are equal until the first one is done, and reports a fault if they differ, if they do not emit the events that they must, or if anything else but the memories changes.
func CheckEqual(t T, what string, e, f *machine.Env, x, y machine.Machine, events ...api.Event) {
	t.Helper()
	CheckEqualSteps(t, what, e, f, x, y, Step{Events: events})
}

// CheckEqualSteps is CheckEqual for machines that may write records, too: all their steps together must do what one step must, but for its access.
func CheckEqualSteps(t T, what string, e, f *machine.Env, x, y machine.Machine, all Step) {
	t.Helper()
	want := e.Copy()
	all.beside(want)
	for i := 1; ; i++ {
		done, d := x.Step(e), y.Step(f)
		if d != done || i == most || e.Memory.Last() != f.Memory.Last() || e.Memory.Count() != f.Memory.Count() {
			t.Errorf("%s, step %d: %t with %v and %t with %v", what, i, done, e.Memory.Last(), d, f.Memory.Last())
			return
		}
		if done {
			break
		}
	}
	code, value := x.Result()
	CheckResult(t, what+", the second machine", y, code, value)
	if !slices.Equal(e.Memory.Cells(), f.Memory.Cells()) {
		t.Errorf("%s: the cells are %v and %v", what, e.Memory.Cells(), f.Memory.Cells())
	}
	checkBeside(t, what+", the first machine", e, want)
	checkBeside(t, what+", the second machine", f, want)
}

// Mixed returns a function that returns numbers from 0 to n - 1 in a fixed order that looks like none.
func Mixed(x uint64) func(n int) int {
	return func(n int) int {
		x = x*6364136223846793005 + 1442695040888963407
		return int(x>>33) % n
	}
}
