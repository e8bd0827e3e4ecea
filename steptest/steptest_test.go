package steptest_test

import (
	"fmt"
	"slices"
	"testing"

	"worksteal/api"
	"worksteal/config"
	"worksteal/layout"
	"worksteal/machine"
	"worksteal/memory"
	"worksteal/steptest"
)

// A recorder keeps the faults that are reported to it.
type recorder []string

func (r *recorder) Helper() {}

func (r *recorder) Errorf(format string, args ...any) {
	*r = append(*r, fmt.Sprintf(format, args...))
}

// A mover loads cell 0 and stores what it has loaded into cell 1; it is done with Got and that value. Its fields behind these are what it does wrong.
type mover struct {
	steps int
	v     uint64
	// last is what the second line does instead of its store.
	last func(e *machine.Env)
	// beside is what it does beside each line, and idle what a step does when it is done.
	beside, idle func(e *machine.Env)
	// early is by how many lines it is done too early, and busy how often Step returns false when it is done.
	early, busy int
	result      func(m *mover) (code, value int)
	copy        func(m *mover) machine.Machine
}

func (m *mover) Step(e *machine.Env) bool {
	if m.steps >= 2-m.early {
		if m.idle != nil {
			m.idle(e)
		}
		m.busy--
		return m.busy < 0
	}
	switch {
	case m.steps == 0:
		m.v = e.Memory.Load(0)
	case m.last != nil:
		m.last(e)
	default:
		e.Memory.Store(1, m.v)
	}
	if m.beside != nil {
		m.beside(e)
	}
	m.steps++
	return m.steps >= 2-m.early
}

func (m *mover) Result() (code, value int) {
	switch {
	case m.result != nil:
		return m.result(m)
	case m.steps < 2:
		return 0, 0
	}
	return api.Got, int(m.v)
}

func (m *mover) Copy() machine.Machine {
	if m.copy != nil {
		return m.copy(m)
	}
	c := *m
	return &c
}

// way returns the way that a mover must go, as copies of a mover go it.
func way(m mover) steptest.Way {
	return steptest.Way{
		What:  "a mover",
		Cells: []uint64{7, 8, 9},
		Make:  func() machine.Machine { c := m; return &c },
		Steps: []steptest.Step{steptest.Load(0, 7), steptest.Store(1, 6, 7).After(0, 5).After(1, 6)},
		Code:  api.Got,
		Value: 7,
	}
}

// A fault is a mover that does something wrong.
type fault struct {
	what string
	m    mover
}

// accesses returns movers whose accesses are wrong.
func accesses() []fault {
	return []fault{
		{"no access", mover{last: func(e *machine.Env) {}}},
		{"an access of another kind", mover{last: func(e *machine.Env) { e.Memory.CAS(1, 6, 7) }}},
		{"an access to another cell", mover{last: func(e *machine.Env) { e.Memory.Store(2, 7) }}},
		{"an access with another value", mover{last: func(e *machine.Env) { e.Memory.Store(1, 8) }}},
		{"two accesses, the last of which is right", mover{last: func(e *machine.Env) { e.Memory.Load(1); e.Memory.Store(1, 7) }}},
		{"another cell changes first", mover{last: func(e *machine.Env) { e.Memory.Store(2, 7); e.Memory.Store(1, 7) }}},
		{"another memory, where as many accesses end with the right one", mover{last: func(e *machine.Env) {
			count := e.Memory.Count()
			e.Memory = memory.New(3)
			for e.Memory.Count() < count {
				e.Memory.Store(1, 6)
			}
			e.Memory.Store(1, 7)
		}}},
	}
}

// results returns movers whose end or result is wrong.
func results() []fault {
	return []fault{
		{"done too early", mover{early: 1}},
		{"another code", mover{result: func(m *mover) (code, value int) { return m.steps / 2 * api.Empty, m.steps / 2 * 7 }}},
		{"another value", mover{result: func(m *mover) (code, value int) { return m.steps / 2 * api.Got, m.steps / 2 * 8 }}},
	}
}

// outside returns movers that do something wrong when they are done, or whose Result is wrong before that.
func outside() []fault {
	return []fault{
		{"a code before it is done", mover{result: func(m *mover) (code, value int) { return api.Got, m.steps / 2 * 7 }}},
		{"a value before it is done", mover{result: func(m *mover) (code, value int) { return m.steps / 2 * api.Got, 7 }}},
		{"an access when it is done", mover{idle: func(e *machine.Env) { e.Memory.Load(0) }}},
		{"an access when it is done and a cell changes", mover{idle: func(e *machine.Env) {
			if e.Memory.Peek(0) != 5 {
				e.Memory.Load(0)
			}
		}}},
		{"an event when it is done", mover{idle: func(e *machine.Env) { e.Emit(api.Event{Kind: api.EvPark}) }}},
		{"Step returns false when it is done", mover{busy: 1}},
	}
}

// others returns movers that change an environment beside its memory.
func others() []fault {
	return []fault{
		{"a tick", mover{beside: func(e *machine.Env) { e.Clock.Tick() }}},
		{"a draw", mover{beside: func(e *machine.Env) { e.Clock.Set(3) }}},
		{"an event", mover{beside: func(e *machine.Env) { e.Emit(api.Event{Kind: api.EvPark}) }}},
		{"another event", mover{beside: func(e *machine.Env) { e.Events[0].Worker++ }}},
		{"a record", mover{beside: func(e *machine.Env) { e.Records = append(e.Records, api.Record{}) }}},
		{"another configuration", mover{beside: func(e *machine.Env) { e.Config.Age++ }}},
		{"another layout", mover{beside: func(e *machine.Env) { e.Layout, _ = layout.New(config.Decode(nil)) }}},
	}
}

// copies returns movers whose copies are wrong.
func copies() []fault {
	return []fault{
		{"a copy that is the machine itself", mover{copy: func(m *mover) machine.Machine { return m }}},
		{"a copy that is at the beginning", mover{copy: func(m *mover) machine.Machine { return &mover{} }}},
		{"a copy that has not loaded anything", mover{copy: func(m *mover) machine.Machine { return &mover{steps: m.steps} }}},
	}
}

// A machine without faults has none, and its accesses, its end, its result and its copies are compared with what they must be.
func TestCheck(t *testing.T) {
	var r recorder
	steptest.Check(&r, way(mover{}), way(mover{}))
	steptest.CheckCopies(&r, way(mover{}), way(mover{}))
	if len(r) != 0 {
		t.Errorf("faults of a machine without any: %q", r)
	}
	for _, f := range slices.Concat(accesses(), results(), others(), outside()) {
		r = nil
		if steptest.Check(&r, way(mover{}), way(f.m)); len(r) == 0 {
			t.Errorf("%s is not reported by Check", f.what)
		}
	}
	for _, f := range slices.Concat(accesses(), results(), others(), outside(), copies()) {
		r = nil
		if steptest.CheckCopies(&r, way(mover{}), way(f.m)); len(r) == 0 {
			t.Errorf("%s is not reported by CheckCopies", f.what)
		}
	}
}

// The machines of a way act on copies of its environment, which stays as it is.
func TestWayEnv(t *testing.T) {
	e := steptest.Made(few(), steptest.Put{Cell: 0, V: 7}, steptest.Put{Cell: 1, V: 8})
	w := way(mover{})
	w.Env, w.Cells = e, nil
	before := e.Copy()
	var r recorder
	steptest.Check(&r, w, w)
	steptest.CheckCopies(&r, w, w)
	if len(r) != 0 {
		t.Errorf("faults of a machine without any: %q", r)
	}
	if f, _ := w.Begun(2); f == e || f.Memory.Peek(1) != 7 || f.Layout != e.Layout {
		t.Errorf("the environment behind all steps has the cells %v", f.Memory.Cells())
	}
	if !slices.Equal(e.Memory.Cells(), before.Memory.Cells()) || e.Memory.Count() != before.Memory.Count() || len(e.Events) != len(before.Events) {
		t.Errorf("the cells of the way are %v since, want %v", e.Memory.Cells(), before.Memory.Cells())
	}
	w.Env = steptest.Made(few(), steptest.Put{Cell: 0, V: 6}, steptest.Put{Cell: 1, V: 8})
	if steptest.Check(&r, w); len(r) == 0 {
		t.Error("another environment is not reported by Check")
	}
}

// few returns a configuration with as little as there can be.
func few() api.Config { return config.Decode(nil) }

// An environment is that of its configuration, behind the puts, with an event and a tick.
func TestMade(t *testing.T) {
	c := few()
	c.Deque = 3
	e := steptest.Made(c, steptest.Put{Cell: 3, V: 7}, steptest.Put{Cell: 3, V: 8}, steptest.Put{Cell: 0, V: 5})
	l, _ := layout.New(c)
	want := make([]uint64, l.Cells())
	want[0], want[3] = 5, 8
	if !slices.Equal(e.Memory.Cells(), want) || !config.Equal(e.Config, c) || e.Layout != l || len(e.Records) != c.Tasks || len(e.Events) != 1 || e.Clock.Now() != 1 {
		t.Errorf("the environment is %v with the cells %v", *e, e.Memory.Cells())
	}
}

// No machine is a fault, and the next way is checked all the same.
func TestCheckNil(t *testing.T) {
	var r recorder
	w := way(mover{})
	w.Make = func() machine.Machine { return nil }
	if steptest.Check(&r, w, w); len(r) != 2 {
		t.Errorf("the faults are %q, want one for each of two machines that are nil", r)
	}
}

// Steps are those of the access with their name, behind their puts.
func TestSteps(t *testing.T) {
	steps := []steptest.Step{steptest.None(), steptest.Load(1, 12), steptest.Store(1, 12, 5), steptest.CAS(1, 12, 5), steptest.Or(1, 12, 13), steptest.And(1, 12, 4), steptest.Add(1, 12, 21)}
	for i, play := range []func(e *machine.Env){
		func(e *machine.Env) {},
		func(e *machine.Env) { e.Memory.Load(1) },
		func(e *machine.Env) { e.Memory.Store(1, 5) },
		func(e *machine.Env) { e.Memory.CAS(1, 12, 5) },
		func(e *machine.Env) { e.Memory.Or(1, 9) },
		func(e *machine.Env) { e.Memory.And(1, 6) },
		func(e *machine.Env) { e.Memory.Add(1, 9) },
	} {
		for j, s := range steps {
			var r recorder
			x := &mover{steps: 1, last: play}
			steptest.CheckStep(&r, "a step", steptest.Filled([]uint64{0, 0}), x, s.After(1, 12), true)
			if (len(r) == 0) != (i == j) {
				t.Errorf("step %d as %v: the faults are %q", i, s, r)
			}
		}
	}
}

// A step with further puts leaves the step that it was made of as it is, and whatever else is made of that one.
func TestAfter(t *testing.T) {
	s := steptest.Load(0, 3)
	for i := range 9 {
		a, b := s.After(0, 2), s.After(0, 3)
		if len(s.Puts) != i || a.Puts[i].V != 2 || b.Puts[i].V != 3 {
			t.Errorf("%v is changed by further puts %v and %v", s, a, b)
		}
		s = a
	}
}

// A step with further events leaves the step that it was made of as it is, and whatever else is made of that one.
func TestEmits(t *testing.T) {
	s := steptest.Load(0, 3).After(0, 3)
	for i := range 9 {
		a, b := s.Emits(api.Event{Task: 2}), s.Emits(api.Event{Task: 3})
		if len(s.Events) != i || a.Events[i].Task != 2 || b.Events[i].Task != 3 || len(a.Puts) != 1 {
			t.Errorf("%v is changed by further events %v and %v", s, a, b)
		}
		s = a
	}
}

// A step with further records leaves the step that it was made of as it is, and whatever else is made of that one.
func TestSets(t *testing.T) {
	s := steptest.Load(0, 3).After(0, 3)
	for i := range 9 {
		a, b := s.Sets(i, api.Record{PC: 2}), s.Sets(i, api.Record{PC: 3})
		if len(s.Writes) != i || a.Writes[i].Record.PC != 2 || b.Writes[i].Record.PC != 3 || a.Writes[i].Task != i || len(a.Puts) != 1 {
			t.Errorf("%v is changed by further records %v and %v", s, a, b)
		}
		s = a
	}
}

// The ticks before a step add up, and the step itself sees them; a step that is not told of a tick has none.
func TestLater(t *testing.T) {
	now := func(e *machine.Env) { e.Memory.Store(0, uint64(e.Clock.Now())) }
	var r recorder
	e, s := steptest.Filled([]uint64{7}), steptest.Store(0, 7, 6)
	if steptest.CheckStep(&r, "a step", e, &mover{steps: 1, last: now}, s.Later(2).After(0, 7).Later(3), true); len(r) != 0 || e.Clock.Now() != 6 {
		t.Errorf("a step behind five more ticks: the time is %d, and the faults are %q", e.Clock.Now(), r)
	}
	if s.Ticks != 0 {
		t.Errorf("a step has %d ticks since", s.Ticks)
	}
	if steptest.CheckStep(&r, "a step", steptest.Filled([]uint64{7}), &mover{steps: 1, last: now}, s, true); len(r) == 0 {
		t.Error("a step without ticks that stores another time is not reported")
	}
}

// The ticks of a way are those of its copies as well, and a machine that is done must not mind a tick.
func TestLaterWay(t *testing.T) {
	stamp := func(e *machine.Env) { e.Memory.Store(1, uint64(e.Clock.Now())) }
	w := way(mover{last: stamp})
	w.Steps = []steptest.Step{steptest.Load(0, 7).Later(1), steptest.Store(1, 8, 5).Later(3)}
	var r recorder
	steptest.Check(&r, w)
	steptest.CheckCopies(&r, w)
	if len(r) != 0 {
		t.Errorf("faults of a machine without any: %q", r)
	}
	w = way(mover{})
	w.Make = func() machine.Machine {
		return &mover{idle: func(e *machine.Env) {
			if e.Clock.Now() > 1 {
				e.Memory.Store(0, 0)
			}
		}}
	}
	if steptest.Check(&r, w); len(r) == 0 {
		t.Error("a machine that is done and minds a tick is not reported")
	}
}

// A step must write its records, and no others.
func TestWrites(t *testing.T) {
	a, b := api.Record{PC: 1, Kids: []int{2}}, api.Record{Started: true}
	lists := [][]steptest.Write{nil, {{0, a}}, {{1, a}}, {{0, b}}, {{0, a}, {1, b}}, {{0, b}, {1, a}}, {{0, a}, {1, a}}}
	for i, written := range lists {
		for j, wanted := range lists {
			s := steptest.Load(0, 7)
			for _, w := range wanted {
				s = s.Sets(w.Task, w.Record)
			}
			write := func(e *machine.Env) {
				for _, w := range written {
					e.Records[w.Task] = w.Record
				}
			}
			e := steptest.Filled([]uint64{7, 8})
			e.Records = make([]api.Record, 2)
			var r recorder
			steptest.CheckStep(&r, "a step", e.Copy(), &mover{beside: write}, s, false)
			if (len(r) == 0) != (i == j) {
				t.Errorf("records %v as %v: the faults are %q", written, wanted, r)
			}
			r = nil
			last := func(e *machine.Env) { write(e); e.Memory.Store(1, 7) }
			steptest.CheckEqualSteps(&r, "two machines", e, e.Copy(), &mover{last: last}, &mover{last: last}, s)
			if (len(r) == 0) != (i == j) {
				t.Errorf("records %v of two machines as %v: the faults are %q", written, wanted, r)
			}
		}
	}
}

// A step must emit its events, in their order, and no others.
func TestEvents(t *testing.T) {
	a, b := api.Event{Kind: api.EvStart, Worker: 1, Task: 2}, api.Event{Kind: api.EvFinish, Worker: 1, Task: 2}
	lists := [][]api.Event{nil, {a}, {b}, {a, a}, {a, b}, {b, a}, {{Kind: api.EvStart, Worker: 1, Task: 3}}, {{}}}
	for i, emitted := range lists {
		for j, wanted := range lists {
			var r recorder
			s := steptest.Load(0, 7)
			for _, v := range wanted {
				s = s.Emits(v)
			}
			emit := func(e *machine.Env) {
				for _, v := range emitted {
					e.Emit(v)
				}
			}
			steptest.CheckStep(&r, "a step", steptest.Filled([]uint64{7}), &mover{beside: emit}, s, false)
			if (len(r) == 0) != (i == j) {
				t.Errorf("events %v as %v: the faults are %q", emitted, wanted, r)
			}
			r = nil
			e := steptest.Filled([]uint64{7, 8})
			last := func(e *machine.Env) { emit(e); e.Memory.Store(1, 7) }
			steptest.CheckEqual(&r, "two machines", e, e.Copy(), &mover{last: last}, &mover{last: last}, wanted...)
			if (len(r) == 0) != (i == j) {
				t.Errorf("events %v of two machines as %v: the faults are %q", emitted, wanted, r)
			}
		}
	}
}

// Each field of a record that changes is a fault.
func TestRecords(t *testing.T) {
	for i, change := range []func(r *api.Record){
		func(r *api.Record) {},
		func(r *api.Record) { r.Prog++ },
		func(r *api.Record) { r.Parent++ },
		func(r *api.Record) { r.PC++ },
		func(r *api.Record) { r.Left++ },
		func(r *api.Record) { r.Waiting++ },
		func(r *api.Record) { r.Kids = append(r.Kids, 3) },
		func(r *api.Record) { r.Kids[0]++ },
		func(r *api.Record) { r.Started = true },
	} {
		e := steptest.Filled([]uint64{7})
		e.Records = []api.Record{{}, {Kids: []int{1, 2}}}
		var r recorder
		steptest.CheckStep(&r, "a step", e, &mover{beside: func(e *machine.Env) { change(&e.Records[1]) }}, steptest.Load(0, 7), false)
		if (len(r) == 0) != (i == 0) {
			t.Errorf("change %d of a record: the faults are %q", i, r)
		}
	}
}

// A machine behind some steps of a way is where it is behind them and their puts.
func TestBegun(t *testing.T) {
	for steps, want := range [][]uint64{{7, 8, 9}, {7, 8, 9}, {5, 7, 9}} {
		e, x := way(mover{}).Begun(steps)
		if g := e.Memory.Cells(); !slices.Equal(g, want) || x.(*mover).steps != steps {
			t.Errorf("%d steps lead to %d, with the cells %v, want %v", steps, x.(*mover).steps, g, want)
		}
	}
}

// Equal machines have no faults; others differ in an access, in an end or a result, or change something beside the memory.
func TestCheckEqual(t *testing.T) {
	pair := func(m mover) recorder {
		var r recorder
		e := steptest.Filled([]uint64{7, 8, 9})
		steptest.CheckEqual(&r, "two machines", e, e.Copy(), &mover{}, &m)
		return r
	}
	if r := pair(mover{}); len(r) != 0 {
		t.Errorf("faults of equal machines: %q", r)
	}
	for _, f := range slices.Concat(accesses(), results(), others()) {
		if len(pair(f.m)) == 0 {
			t.Errorf("%s is not reported by CheckEqual", f.what)
		}
	}
	// The environments differ, in a cell that no machine accesses.
	var r recorder
	steptest.CheckEqual(&r, "two machines", steptest.Filled([]uint64{7, 8, 9}), steptest.Filled([]uint64{7, 8, 10}), &mover{}, &mover{})
	if len(r) == 0 {
		t.Error("another cell of another environment is not reported by CheckEqual")
	}
	// Both machines do the same wrong: they never are done, or they change something beside the memory.
	for _, m := range []mover{{early: 2, busy: 1 << 20}, others()[0].m} {
		var r recorder
		e := steptest.Filled([]uint64{7, 8, 9})
		x, y := m, m
		if steptest.CheckEqual(&r, "two machines", e, e.Copy(), &x, &y); len(r) == 0 {
			t.Error("a fault of both machines is not reported by CheckEqual")
		}
	}
}

// Mixed numbers are in their range, all of them occur, and equal seeds have equal numbers.
func TestMixed(t *testing.T) {
	some, same, other := steptest.Mixed(3), steptest.Mixed(3), steptest.Mixed(4)
	seen := map[int]bool{}
	differ := false
	for range 100 {
		v := some(7)
		if v < 0 || v > 6 {
			t.Errorf("%d is not from 0 to 6", v)
		}
		if w := same(7); w != v {
			t.Errorf("the number with the same seed is %d, want %d", w, v)
		}
		differ = differ || other(7) != v
		seen[v] = true
	}
	if len(seen) != 7 || !differ {
		t.Errorf("of 7 numbers %d occur; with another seed they differ: %t", len(seen), differ)
	}
}
