package machine_test

import (
	"fmt"
	"math"
	"math/big"
	"reflect"
	"slices"
	"testing"

	"worksteal/api"
	"worksteal/clock"
	"worksteal/config"
	"worksteal/layout"
	"worksteal/machine"
	"worksteal/memory"
)

// least returns the least configuration, which is that of the empty byte string.
func least() api.Config {
	return api.Config{Workers: 1, Levels: 1, Classes: 1, Tasks: 1, Deque: 1, Heap: 1, Batch: 1, Patience: 1, Progs: [][]api.Instr{nil}}
}

// full returns a configuration with programs and submissions.
func full() api.Config {
	return api.Config{
		Workers: 4, Levels: 7, Classes: 2, Tasks: 11, Deque: 6, Heap: 3, Batch: 5, Age: 9, Patience: 8,
		Progs: [][]api.Instr{{{Op: api.Compute, A: 3}, {Op: api.Spawn, A: 1, B: 6}, {Op: api.Join}}, {}},
		Subs:  []api.Submission{{Prog: 0, Level: 1, Deadline: 9}, {Prog: 1, Level: 6, Deadline: 4}},
	}
}

// greatest returns a configuration with the greatest numbers and the longest lists.
func greatest() api.Config {
	c := api.Config{Workers: 16, Levels: 64, Classes: 8, Tasks: 256, Deque: 64, Heap: 64, Batch: 64, Age: 65536, Patience: 65536}
	for range 32 {
		c.Progs = append(c.Progs, slices.Repeat([]api.Instr{{Op: api.Spawn, A: 31, B: 63}}, 32))
	}
	c.Subs = slices.Repeat([]api.Submission{{Prog: 31, Level: 63, Deadline: 16777215}}, 64)
	return c
}

// configs returns configurations of many kinds, the least and the greatest one among them.
func configs() []api.Config {
	l := []api.Config{least(), full(), greatest()}
	for i := range 100 {
		b := make([]byte, 40)
		for j := range b {
			b[j] = byte(i * (31 + 22*j) >> (j % 9))
		}
		l = append(l, config.Decode(b))
	}
	return l
}

// made returns a new environment of a valid configuration.
func made(t *testing.T, c api.Config) *machine.Env {
	t.Helper()
	e, err := machine.New(c)
	if err != api.OK || e == nil {
		t.Fatalf("New of %v: the environment is nil: %t, the error is %d", c, e == nil, err)
	}
	return e
}

// numbers returns numbers at the limits, around 0, and around multiples of small ones.
func numbers() []int {
	return []int{
		math.MinInt, math.MinInt + 1, math.MinInt + 2, math.MinInt + 3, math.MinInt32, -65536, -1001, -100, -9, -8, -7, -6, -5, -4, -3, -2, -1,
		0, 1, 2, 3, 4, 5, 6, 7, 8, 9, 12, 100, 1001, 65536, math.MaxInt32, math.MaxInt - 3, math.MaxInt - 2, math.MaxInt - 1, math.MaxInt,
	}
}

// state returns a text of all that an environment contains. Nil and empty lists have the same text. The draw of a clock is told by two great numbers that are neighbours: no two draws have the same remainders for both.
func state(e *machine.Env) string {
	s := fmt.Sprintf("config %v\nlayout %v\nrecords %v\nevents %v\n", e.Config, e.Layout, e.Records, e.Events)
	if e.Memory != nil {
		s += fmt.Sprintf("memory %v count %d last %v\n", e.Memory.Cells(), e.Memory.Count(), e.Memory.Last())
	}
	if e.Clock != nil {
		s += fmt.Sprintf("time %d draw %d %d\n", e.Clock.Now(), e.Clock.Draw(math.MaxInt), e.Clock.Draw(math.MaxInt-1))
	}
	return s
}

// checkState reports an error if the state of an environment is not the wanted one.
func checkState(t *testing.T, what string, e *machine.Env, want string) {
	t.Helper()
	if g := state(e); g != want {
		t.Errorf("%s: the environment is\n%.2000s\nwant\n%.2000s", what, g, want)
	}
}

// checkFresh reports an error if the memory of an environment does not have a number of cells that contain 0 and were never accessed, or its clock is not a new one.
func checkFresh(t *testing.T, what string, e *machine.Env, cells int) {
	t.Helper()
	if g := e.Memory.Cells(); e.Memory.Size() != cells || !slices.Equal(g, make([]uint64, cells)) {
		t.Errorf("%s: %d cells, want %d that contain 0", what, e.Memory.Size(), cells)
	}
	if e.Memory.Count() != 0 || e.Memory.Last() != (api.Access{}) {
		t.Errorf("%s: the memory has Count %d and Last %v, want no access", what, e.Memory.Count(), e.Memory.Last())
	}
	if *e.Clock != *clock.New() {
		t.Errorf("%s: the clock is %v, want a new one", what, *e.Clock)
	}
}

// P8.1: all that New returns, for the least configuration, larger ones and the greatest one.
func TestNew(t *testing.T) {
	for _, c := range configs() {
		what := fmt.Sprintf("New of %.300v", c)
		e := made(t, c)
		if !config.Equal(e.Config, c) {
			t.Errorf("%s: the configuration is %v", what, e.Config)
		}
		l, _ := layout.New(c)
		if e.Layout != l {
			t.Errorf("%s: the layout is %v, want %v", what, e.Layout, l)
		}
		checkFresh(t, what, e, l.Cells())
		if len(e.Records) != c.Tasks {
			t.Errorf("%s: %d records, want %d", what, len(e.Records), c.Tasks)
		}
		for i, r := range e.Records {
			if r.Prog != 0 || r.Parent != -1 || r.PC != 0 || r.Left != 0 || r.Waiting != -1 || len(r.Kids) != 0 || r.Started {
				t.Errorf("%s: record %d is %v, want 0 but for Parent and Waiting, which are -1", what, i, r)
			}
		}
		if len(e.Events) != 0 {
			t.Errorf("%s: the events are %v, want none", what, e.Events)
		}
	}
}

// P8.1: the numbers of cells and records of three configurations, written out.
func TestNewWrittenOut(t *testing.T) {
	for _, x := range []struct {
		c              api.Config
		cells, records int
	}{
		{least(), 16, 1},
		{full(), 296, 11},
		{greatest(), 68972, 256},
	} {
		e := made(t, x.c)
		if e.Memory.Size() != x.cells || e.Layout.Cells() != x.cells || len(e.Records) != x.records {
			t.Errorf("%d workers: %d cells, a layout of %d cells and %d records, want %d, %d and %d", x.c.Workers, e.Memory.Size(), e.Layout.Cells(), len(e.Records), x.cells, x.cells, x.records)
		}
	}
}

// P8.1: the error of New is that of config.Check, with nil beside it.
func TestNewErrors(t *testing.T) {
	for _, x := range []struct {
		what string
		make func(c *api.Config)
		want api.Errno
	}{
		{"nothing", func(c *api.Config) { *c = api.Config{} }, api.ErrRange},
		{"no workers", func(c *api.Config) { c.Workers = 0 }, api.ErrRange},
		{"17 workers", func(c *api.Config) { c.Workers = 17 }, api.ErrRange},
		{"no levels", func(c *api.Config) { c.Levels = 0 }, api.ErrRange},
		{"65 levels", func(c *api.Config) { c.Levels = 65 }, api.ErrRange},
		{"no classes", func(c *api.Config) { c.Classes = 0 }, api.ErrRange},
		{"more classes than levels", func(c *api.Config) { c.Classes = 8 }, api.ErrRange},
		{"9 classes", func(c *api.Config) { c.Levels, c.Classes = 64, 9 }, api.ErrRange},
		{"no tasks", func(c *api.Config) { c.Tasks = 0 }, api.ErrRange},
		{"a negative number of tasks", func(c *api.Config) { c.Tasks = -1 }, api.ErrRange},
		{"257 tasks", func(c *api.Config) { c.Tasks = 257 }, api.ErrRange},
		{"no deque", func(c *api.Config) { c.Deque = 0 }, api.ErrRange},
		{"deques of 65", func(c *api.Config) { c.Deque = 65 }, api.ErrRange},
		{"no slots", func(c *api.Config) { c.Heap = 0 }, api.ErrRange},
		{"65 slots", func(c *api.Config) { c.Heap = 65 }, api.ErrRange},
		{"no batch", func(c *api.Config) { c.Batch = 0 }, api.ErrRange},
		{"a batch greater than a deque", func(c *api.Config) { c.Batch = 7 }, api.ErrRange},
		{"a negative age", func(c *api.Config) { c.Age = -1 }, api.ErrRange},
		{"a great age", func(c *api.Config) { c.Age = 65537 }, api.ErrRange},
		{"no patience", func(c *api.Config) { c.Patience = 0 }, api.ErrRange},
		{"great patience", func(c *api.Config) { c.Patience = 65537 }, api.ErrRange},
		{"the greatest int", func(c *api.Config) { c.Workers, c.Levels, c.Tasks = math.MaxInt, math.MaxInt, math.MaxInt }, api.ErrRange},
		{"the least int", func(c *api.Config) { c.Workers, c.Levels, c.Tasks = math.MinInt, math.MinInt, math.MinInt }, api.ErrRange},
		{"no program", func(c *api.Config) { c.Progs = nil }, api.ErrLimit},
		{"33 programs", func(c *api.Config) { c.Progs = make([][]api.Instr, 33) }, api.ErrLimit},
		{"33 instructions", func(c *api.Config) { c.Progs[1] = make([]api.Instr, 33) }, api.ErrLimit},
		{"an instruction of an unknown kind", func(c *api.Config) { c.Progs[0][2].Op = 3 }, api.ErrRange},
		{"a Compute of 0 steps", func(c *api.Config) { c.Progs[0][0].A = 0 }, api.ErrRange},
		{"a Spawn of an unknown program", func(c *api.Config) { c.Progs[0][1].A = 2 }, api.ErrRange},
		{"a Spawn at a level that does not exist", func(c *api.Config) { c.Progs[0][1].B = 7 }, api.ErrRange},
		{"a Join of a great number", func(c *api.Config) { c.Progs[0][2].A = 32 }, api.ErrRange},
		{"65 submissions", func(c *api.Config) { c.Subs = make([]api.Submission, 65) }, api.ErrLimit},
		{"a submission of an unknown program", func(c *api.Config) { c.Subs[1].Prog = 2 }, api.ErrUnknown},
		{"a submission at a level that does not exist", func(c *api.Config) { c.Subs[1].Level = 7 }, api.ErrRange},
		{"a submission with a great deadline", func(c *api.Config) { c.Subs[1].Deadline = 1 << 24 }, api.ErrRange},
		{"errors of a number and of the programs", func(c *api.Config) { c.Patience, c.Progs = 0, nil }, api.ErrRange},
		{"errors of the programs and of a submission", func(c *api.Config) { c.Progs, c.Subs[0].Prog = nil, -1 }, api.ErrLimit},
		{"errors of both submissions", func(c *api.Config) { c.Subs[0].Prog, c.Subs[1].Level = -1, -1 }, api.ErrUnknown},
	} {
		c := full()
		x.make(&c)
		same := config.Clone(c)
		e, err := machine.New(c)
		if err != x.want || err != config.Check(c) {
			t.Errorf("New with %s: the error is %d, want %d; config.Check says %d", x.what, err, x.want, config.Check(c))
		}
		if e != nil {
			t.Errorf("New with %s: an environment beside the error", x.what)
		}
		if !config.Equal(c, same) {
			t.Errorf("New with %s changed the configuration to %v", x.what, c)
		}
	}
}

// change changes all numbers of a configuration like full and all elements of its lists.
func change(c *api.Config) {
	c.Workers, c.Levels, c.Classes, c.Tasks, c.Deque, c.Heap, c.Batch, c.Age, c.Patience = 1, 1, 1, 1, 1, 1, 1, 1, 1
	for _, p := range c.Progs {
		for i := range p {
			p[i] = api.Instr{Op: 9, A: 9, B: 9}
		}
	}
	c.Progs[0] = append(c.Progs[0][:1], api.Instr{Op: 8})
	c.Progs[1] = append(c.Progs[1], api.Instr{Op: 7})
	for i := range c.Subs {
		c.Subs[i] = api.Submission{Prog: 9, Level: 9, Deadline: 99}
	}
	c.Subs = append(c.Subs[:1], api.Submission{Prog: 8})
}

// P8.1 and R3: New leaves the configuration as it is; what becomes of it afterwards changes nothing in the environment, and the other way round.
func TestConfigStaysApart(t *testing.T) {
	c := full()
	e := made(t, c)
	want := state(e)
	if !config.Equal(c, full()) {
		t.Errorf("New changed the configuration to %v", c)
	}
	change(&c)
	checkState(t, "the given configuration changed", e, want)

	c = full()
	e = made(t, c)
	change(&e.Config)
	if !config.Equal(c, full()) {
		t.Errorf("the environment changed the given configuration to %v", c)
	}
	// Lists that have room behind their ends share nothing there either.
	c = full()
	c.Progs = slices.Grow(c.Progs, 5)
	c.Progs[0], c.Progs[1], c.Subs = slices.Grow(c.Progs[0], 5), slices.Grow(c.Progs[1], 5), slices.Grow(c.Subs, 5)
	e = made(t, c)
	x, y := append(c.Progs[0], api.Instr{Op: 1}), append(c.Subs, api.Submission{Prog: 1})
	_, _ = append(e.Config.Progs[0], api.Instr{Op: 2}), append(e.Config.Subs, api.Submission{Prog: 2})
	if x[3].Op != 1 || y[2].Prog != 1 {
		t.Errorf("the lists of the environment go on in those of the given configuration: %v, %v", x, y)
	}
}

// P8.1 and R2: equal calls of New give equal environments, and what is done with one is not seen in another, whichever was made first.
func TestNewIsFresh(t *testing.T) {
	c := full()
	a, b := made(t, c), made(t, c)
	want := state(a)
	checkState(t, "an equal call", b, want)
	for _, x := range changes() {
		x.do(a)
	}
	checkState(t, "an environment made before the change", b, want)
	checkState(t, "an environment made afterwards", made(t, c), want)
}

// P8.1: each task has a record of its own: children that are appended to one of them are not seen in another one.
func TestRecordsStayApart(t *testing.T) {
	e := made(t, full())
	for i := range e.Records {
		e.Records[i].Kids = append(e.Records[i].Kids, i)
	}
	for i, r := range e.Records {
		if !slices.Equal(r.Kids, []int{i}) {
			t.Errorf("the children of task %d are %v, want %d alone", i, r.Kids, i)
		}
	}
}

// P8.1: Bare for numbers of cells that are negative, 0, MaxCells and greater: what memory.New says for them. All other fields are zero.
func TestBare(t *testing.T) {
	for _, x := range []struct{ cells, want int }{
		{0, 0},
		{1, 1},
		{2, 2},
		{7, 7},
		{1000, 1000},
		{-1, 0},
		{-1000, 0},
		{math.MinInt, 0},
		{api.MaxCells - 1, api.MaxCells - 1},
		{api.MaxCells, api.MaxCells},
		{api.MaxCells + 1, api.MaxCells},
		{math.MaxInt32, api.MaxCells},
		{math.MaxInt, api.MaxCells},
	} {
		what := fmt.Sprintf("Bare(%d)", x.cells)
		e := machine.Bare(x.cells)
		checkFresh(t, what, e, x.want)
		if n := memory.New(x.cells).Size(); n != e.Memory.Size() {
			t.Errorf("%s: %d cells, those of memory.New are %d", what, e.Memory.Size(), n)
		}
		e.Memory, e.Clock = nil, nil
		if !reflect.DeepEqual(*e, machine.Env{}) {
			t.Errorf("%s: the other fields are %v, want zero values", what, *e)
		}
	}
}

// P8.1 and R2: what is done with one bare environment is not seen in another one.
func TestBareIsFresh(t *testing.T) {
	a, b := machine.Bare(4), machine.Bare(4)
	a.Memory.Store(2, 7)
	a.Clock.Tick()
	a.Clock.Set(5)
	a.Emit(api.Event{Kind: api.EvPark})
	checkFresh(t, "a bare environment made before", b, 4)
	checkFresh(t, "a bare environment made afterwards", machine.Bare(4), 4)
	if len(b.Events) != 0 || len(machine.Bare(4).Events) != 0 {
		t.Error("a bare environment has the events of another one")
	}
}

// events returns events of all kinds and of none, with fields of any size.
func events() []api.Event {
	l := []api.Event{{}}
	for k := api.EvAccept; k <= api.EvNoRoom; k++ {
		l = append(l, api.Event{Kind: k, Worker: k % 3, Task: k, Other: 2 * k, Level: 3 * k})
	}
	for _, v := range numbers() {
		l = append(l, api.Event{Kind: v, Worker: 1, Task: 2, Other: 3, Level: 4}, api.Event{Kind: api.EvPark, Worker: v, Task: v, Other: v, Level: v})
	}
	return append(l, l[5], l[5], api.Event{})
}

// P8.2: each Emit appends its event, whatever its fields are, and changes nothing else.
func TestEmit(t *testing.T) {
	for _, e := range []*machine.Env{made(t, least()), made(t, full()), machine.Bare(0), machine.Bare(3), {}} {
		want := e.Copy()
		for i, v := range events() {
			before := e.Events
			e.Emit(v)
			want.Events = append(want.Events, v)
			checkState(t, fmt.Sprintf("Emit of %v", v), e, state(want))
			if !slices.Equal(before, want.Events[:i]) {
				t.Fatalf("Emit of %v changed the events before it to %v", v, before)
			}
		}
	}
	e := machine.Bare(1)
	e.Emit(api.Event{Kind: api.EvWake, Worker: 1, Other: 3})
	if !slices.Equal(e.Events, []api.Event{{Kind: api.EvWake, Worker: 1, Other: 3}}) {
		t.Errorf("Emit once: the events are %v", e.Events)
	}
}

// used returns an environment of full in which each field was changed.
func used(t *testing.T) *machine.Env {
	e := made(t, full())
	e.Memory.Store(3, 8)
	e.Memory.CAS(3, 8, 9)
	e.Clock.Tick()
	e.Clock.Set(-7)
	e.Records[0] = api.Record{Prog: 1, Parent: 4, PC: 2, Left: 3, Waiting: 5, Kids: []int{2, -1, 7}, Started: true}
	e.Records[2].Kids = append(make([]int, 0, 9), 6, 8)
	e.Records[10].Kids = []int{}
	e.Emit(api.Event{Kind: api.EvStart, Task: 4})
	e.Emit(api.Event{Kind: api.EvPark, Worker: 2})
	return e
}

// A named change is something that can be done to an environment like used or made.
type named struct {
	what string
	do   func(e *machine.Env)
}

// changes returns changes of each part of an environment; each of them changes its state.
func changes() []named {
	l := []named{
		{"a store", func(e *machine.Env) { e.Memory.Store(0, 77) }},
		{"a store in the last cell", func(e *machine.Env) { e.Memory.Store(e.Memory.Size()-1, 77) }},
		{"a load", func(e *machine.Env) { e.Memory.Load(2) }},
		{"a sum", func(e *machine.Env) { e.Memory.Add(3, 5) }},
		{"another memory", func(e *machine.Env) { e.Memory = memory.New(2) }},
		{"no memory", func(e *machine.Env) { e.Memory = nil }},
		{"a tick", func(e *machine.Env) { e.Clock.Tick() }},
		{"a draw", func(e *machine.Env) { e.Clock.Set(1234) }},
		{"no clock", func(e *machine.Env) { e.Clock = nil }},
		{"a number of the configuration", func(e *machine.Env) { e.Config.Patience = 99 }},
		{"an instruction", func(e *machine.Env) { e.Config.Progs[0][1].A = 99 }},
		{"one more instruction", func(e *machine.Env) { e.Config.Progs[1] = append(e.Config.Progs[1], api.Instr{A: 99}) }},
		{"one more program", func(e *machine.Env) { e.Config.Progs = append(e.Config.Progs, nil) }},
		{"another program", func(e *machine.Env) { e.Config.Progs[0] = nil }},
		{"a submission", func(e *machine.Env) { e.Config.Subs[1].Deadline = 99 }},
		{"one more submission", func(e *machine.Env) { e.Config.Subs = append(e.Config.Subs, api.Submission{Prog: 99}) }},
		{"the layout", func(e *machine.Env) { e.Layout = layout.Layout{} }},
		{"an event", func(e *machine.Env) { e.Emit(api.Event{Kind: api.EvWake, Other: 99}) }},
		{"an event in another way", func(e *machine.Env) { e.Events = append(e.Events, api.Event{Kind: 99}) }},
		{"a changed event", func(e *machine.Env) { e.Emit(api.Event{Kind: 98}); e.Events[0].Task = 97 }},
		{"events taken away", func(e *machine.Env) {
			e.Emit(api.Event{Kind: 96})
			e.Events = append(e.Events[:0], api.Event{Kind: 95})
		}},
		{"the child of a task", func(e *machine.Env) { e.Records[2].Kids = append(e.Records[2].Kids, 99) }},
		{"a changed child", func(e *machine.Env) {
			e.Records[0].Kids = append(e.Records[0].Kids, 98)
			e.Records[0].Kids[0] = 97
		}},
		{"children taken away", func(e *machine.Env) { e.Records[2].Kids = append(e.Records[2].Kids[:0], 96) }},
		{"one more record", func(e *machine.Env) { e.Records = append(e.Records, api.Record{Prog: 99}) }},
		{"a record taken away", func(e *machine.Env) { e.Records = append(e.Records[:1], e.Records[2:]...); e.Records[4].PC = 95 }},
	}
	for i, do := range []func(r *api.Record){
		func(r *api.Record) { r.Prog = 91 },
		func(r *api.Record) { r.Parent = 92 },
		func(r *api.Record) { r.PC = 93 },
		func(r *api.Record) { r.Left = 94 },
		func(r *api.Record) { r.Waiting = 95 },
		func(r *api.Record) { r.Kids = []int{96} },
		func(r *api.Record) { r.Started = !r.Started },
	} {
		l = append(l, named{fmt.Sprintf("field %d of a record", i), func(e *machine.Env) { do(&e.Records[1]) }})
	}
	return l
}

// P8.2: a copy has equal contents: of new environments, of one in which each field was changed, of bare ones, of one without anything, and of copies.
func TestCopyIsEqual(t *testing.T) {
	l := []*machine.Env{used(t), machine.Bare(0), machine.Bare(5), machine.Bare(math.MaxInt), {}}
	for _, c := range configs() {
		l = append(l, made(t, c))
	}
	for _, e := range l {
		want := state(e)
		x := e.Copy()
		checkState(t, "a copy", x, want)
		checkState(t, "the environment that was copied", e, want)
		checkState(t, "a copy of the copy", x.Copy(), want)
		checkState(t, "a second copy", e.Copy(), want)
		if x == e {
			t.Error("the copy is the environment itself")
		}
	}
}

// P8.2: nothing that is done to an environment is seen in its copy, or in the copy of the copy, and the other way round.
func TestCopyStaysApart(t *testing.T) {
	want := state(used(t))
	for _, x := range changes() {
		for i := range 3 {
			e := used(t)
			first := e.Copy()
			l := []*machine.Env{e, first, first.Copy()}
			x.do(l[i])
			for j, y := range l {
				if j != i {
					checkState(t, fmt.Sprintf("%s in %d, seen in %d", x.what, i, j), y, want)
				}
			}
			if state(l[i]) == want {
				t.Errorf("%s changed nothing, so that it does not test anything", x.what)
			}
		}
	}
}

// P8.2: both go on apart for long: each sees what was done to itself, and what was done to both before.
func TestCopyGoesOn(t *testing.T) {
	for _, start := range []*machine.Env{used(t), made(t, full()), machine.Bare(20)} {
		a, b := start, start.Copy()
		count, now, emitted := a.Memory.Count(), a.Clock.Now(), len(a.Events)
		for i := range 100 {
			a.Memory.Store(1, uint64(i))
			a.Clock.Tick()
			a.Emit(api.Event{Kind: 1, Task: i})
			b.Memory.Store(1, uint64(1000+i))
			b.Memory.Load(2)
			b.Clock.Set(i)
			b.Emit(api.Event{Kind: 2, Task: i})
		}
		if a.Memory.Peek(1) != 99 || a.Memory.Count() != count+100 || a.Clock.Now() != now+100 || len(a.Events) != emitted+100 {
			t.Errorf("the original went on to cell %d, Count %d, time %d, %d events", a.Memory.Peek(1), a.Memory.Count(), a.Clock.Now(), len(a.Events))
		}
		if b.Memory.Peek(1) != 1099 || b.Memory.Count() != count+200 || b.Clock.Now() != now || b.Clock.Draw(1000) != 99 || len(b.Events) != emitted+100 {
			t.Errorf("the copy went on to cell %d, Count %d, time %d, draw %d, %d events", b.Memory.Peek(1), b.Memory.Count(), b.Clock.Now(), b.Clock.Draw(1000), len(b.Events))
		}
		for i := range 100 {
			if x, y := a.Events[emitted+i], b.Events[emitted+i]; x != (api.Event{Kind: 1, Task: i}) || y != (api.Event{Kind: 2, Task: i}) {
				t.Errorf("event %d is %v in the original and %v in the copy", i, x, y)
			}
		}
	}
}

// P8.2 for a copy of a bare environment, which has no lists but its events.
func TestCopyOfBare(t *testing.T) {
	e := machine.Bare(3)
	e.Emit(api.Event{Kind: api.EvPark, Worker: 1})
	want := state(e)
	x := e.Copy()
	x.Memory.Add(1, 5)
	x.Clock.Tick()
	x.Clock.Set(3)
	x.Events[0].Worker = 9
	x.Emit(api.Event{Kind: api.EvPark, Worker: 2})
	x.Records = append(x.Records, api.Record{})
	checkState(t, "the copy went on", e, want)
	x = e.Copy()
	e.Memory.Or(2, 6)
	e.Clock.Tick()
	e.Events[0].Worker = 8
	e.Emit(api.Event{Kind: api.EvPark, Worker: 3})
	checkState(t, "the original went on", x, want)
}

// R1 for Copy of an environment whose memory or clock was set to nil: it has equal contents as well.
func TestCopyOfParts(t *testing.T) {
	e := used(t)
	e.Memory = nil
	if x := e.Copy(); x.Memory != nil || state(x) != state(e) {
		t.Errorf("a copy without a memory is %v, want %v", x, e)
	}
	e = used(t)
	e.Clock = nil
	if x := e.Copy(); x.Clock != nil || state(x) != state(e) {
		t.Errorf("a copy without a clock is %v, want %v", x, e)
	}
	e = &machine.Env{}
	if x := e.Copy(); !reflect.DeepEqual(*x, machine.Env{}) {
		t.Errorf("a copy of an empty environment is %v", *x)
	}
}

// never is a number of steps after which no test stops.
const never = math.MaxInt

// A counter is done with its step number last. Each step before adds 1 to its cell and emits an event with its cell as Worker and the number of the step as Task. It counts the calls of Step, also those when it is done.
type counter struct{ cell, last, steps, calls int }

func (c *counter) Step(e *machine.Env) bool {
	c.calls++
	if c.steps < c.last {
		c.steps++
		e.Memory.Add(c.cell, 1)
		e.Emit(api.Event{Kind: api.EvPark, Worker: c.cell, Task: c.steps})
	}
	return c.steps == c.last
}

func (c *counter) Result() (code, value int) {
	if c.steps < c.last {
		return 0, 0
	}
	return api.Got, c.steps
}

func (c *counter) Copy() machine.Machine {
	x := *c
	return &x
}

// A called machine is a function that is called with each step. Values of this type cannot be compared.
type called func(e *machine.Env) bool

func (f called) Step(e *machine.Env) bool { return f(e) }

func (f called) Result() (code, value int) { panic("Result is called") }

func (f called) Copy() machine.Machine { panic("Copy is called") }

// A drawing machine is done if the draw of the clock is 0. It has no state, so that all machines of this type are equal.
type drawing struct{}

func (drawing) Step(e *machine.Env) bool { return e.Clock.Draw(5) == 0 }

func (drawing) Result() (code, value int) { return api.Fine, 0 }

func (drawing) Copy() machine.Machine { return drawing{} }

// checkRun reports an error if Run does not return what is wanted, or does not call the counter as often.
func checkRun(t *testing.T, what string, e *machine.Env, x *counter, most, steps int, done bool) {
	t.Helper()
	calls := x.calls
	s, d := machine.Run(e, x, most)
	if s != steps || d != done {
		t.Errorf("%s: Run with most %d = %d, %t, want %d, %t", what, most, s, d, steps, done)
	}
	if x.calls-calls != steps {
		t.Errorf("%s: Run with most %d calls Step %d times, want %d", what, most, x.calls-calls, steps)
	}
}

// P8.3: machines that are done with their first, a later and no step; most at the limits, less than 1, fewer than the steps, as many, and more.
func TestRun(t *testing.T) {
	for _, x := range []struct {
		last, most, steps int
		done              bool
	}{
		{1, math.MinInt, 0, false},
		{1, -1, 0, false},
		{1, 0, 0, false},
		{1, 1, 1, true},
		{1, 2, 1, true},
		{1, math.MaxInt, 1, true},
		{2, 1, 1, false},
		{2, 2, 2, true},
		{2, 3, 2, true},
		{7, math.MinInt, 0, false},
		{7, -7, 0, false},
		{7, 0, 0, false},
		{7, 1, 1, false},
		{7, 6, 6, false},
		{7, 7, 7, true},
		{7, 8, 7, true},
		{7, math.MaxInt, 7, true},
		{1000, 999, 999, false},
		{1000, 1000, 1000, true},
		{1000, 1001, 1000, true},
		{never, math.MinInt, 0, false},
		{never, -1, 0, false},
		{never, 0, 0, false},
		{never, 1, 1, false},
		{never, 2, 2, false},
		{never, 5000, 5000, false},
		// A machine that is done already does nothing, and returns true.
		{0, 0, 0, false},
		{0, -1, 0, false},
		{0, 1, 1, true},
		{0, 2, 1, true},
		{0, math.MaxInt, 1, true},
	} {
		what := fmt.Sprintf("done with step %d", x.last)
		e, m := machine.Bare(3), &counter{cell: 1, last: x.last}
		checkRun(t, what, e, m, x.most, x.steps, x.done)
		lines := min(x.steps, x.last)
		if m.steps != lines || !slices.Equal(e.Memory.Cells(), []uint64{0, uint64(lines), 0}) || len(e.Events) != lines || e.Memory.Count() != lines {
			t.Errorf("%s: Run with most %d performed %d lines; cells %v, %d events, want %d lines", what, x.most, m.steps, e.Memory.Cells(), len(e.Events), lines)
		}
		if e.Clock.Now() != 0 {
			t.Errorf("%s: Run with most %d let the clock tick", what, x.most)
		}
	}
}

// P8.3: Run again, of a machine that is done: one call, which does nothing; with a most that is less than 1, none.
func TestRunOfDone(t *testing.T) {
	e, m := machine.Bare(3), &counter{cell: 2, last: 4}
	checkRun(t, "the first Run", e, m, 10, 4, true)
	want := state(e)
	for _, most := range []int{10, 1, 2, math.MaxInt} {
		checkRun(t, "a machine that is done", e, m, most, 1, true)
	}
	for _, most := range []int{0, -1, math.MinInt} {
		checkRun(t, "a machine that is done", e, m, most, 0, false)
	}
	checkState(t, "Run of a machine that is done", e, want)
	if code, value := m.Result(); code != api.Got || value != 4 {
		t.Errorf("Result = %d, %d, want %d, 4", code, value, api.Got)
	}
}

// P8.3: Run again, of a machine that was stopped before its end, goes on where it was stopped.
func TestRunOfStopped(t *testing.T) {
	e, m := machine.Bare(3), &counter{cell: 0, last: 7}
	checkRun(t, "the first Run", e, m, 3, 3, false)
	checkRun(t, "one step more", e, m, 1, 1, false)
	checkRun(t, "no step", e, m, 0, 0, false)
	checkRun(t, "a negative number of steps", e, m, -5, 0, false)
	checkRun(t, "all but the last step", e, m, 2, 2, false)
	if code, value := m.Result(); code != 0 || value != 0 {
		t.Errorf("Result before the end = %d, %d", code, value)
	}
	checkRun(t, "the last step", e, m, 9, 1, true)
	if g := e.Memory.Peek(0); g != 7 {
		t.Errorf("the machine made %d accesses, want 7", g)
	}
}

// P8.3: Run calls Step with the given environment, up to the first true, and no other method; what it returned before does not matter.
func TestRunCallsStep(t *testing.T) {
	e := machine.Bare(1)
	answers := []bool{false, false, true, false, true}
	calls := 0
	x := called(func(g *machine.Env) bool {
		if g != e {
			t.Error("Step is called with another environment")
		}
		calls++
		return answers[calls-1]
	})
	if s, d := machine.Run(e, x, 10); s != 3 || !d || calls != 3 {
		t.Errorf("Run = %d, %t after %d calls, want 3, true", s, d, calls)
	}
	if s, d := machine.Run(e, x, 1); s != 1 || d || calls != 4 {
		t.Errorf("Run of one step more = %d, %t after %d calls, want 1, false", s, d, calls)
	}
	if s, d := machine.Run(e, x, 1); s != 1 || !d || calls != 5 {
		t.Errorf("Run of the last step = %d, %t after %d calls, want 1, true", s, d, calls)
	}
	e.Clock.Set(3)
	if s, d := machine.Run(e, drawing{}, 50); s != 50 || d {
		t.Errorf("Run of a machine without a state = %d, %t, want 50, false", s, d)
	}
	e.Clock.Set(-5)
	if s, d := machine.Run(e, drawing{}, 50); s != 1 || !d {
		t.Errorf("Run of a machine without a state = %d, %t, want 1, true", s, d)
	}
}

// remainder returns the number that P8.4 says for a pick of n machines, with numbers of any size: Mod of package big is never negative.
func remainder(p, n int) int {
	return int(new(big.Int).Mod(big.NewInt(int64(p)), big.NewInt(int64(n))).Int64())
}

// counters returns machines that are done with the given steps; each has the cell of its number.
func counters(last ...int) []*counter {
	var l []*counter
	for i, n := range last {
		l = append(l, &counter{cell: i, last: n})
	}
	return l
}

// machines returns counters as machines.
func machines(l []*counter) []machine.Machine {
	var xs []machine.Machine
	for _, c := range l {
		xs = append(xs, c)
	}
	return xs
}

// checkInterleave reports an error if Interleave of counters does not do what P8.4 says, for a bare environment: the calls of each machine, the cells, and the events in the order of the picks.
func checkInterleave(t *testing.T, e *machine.Env, l []*counter, picks []int) {
	t.Helper()
	steps, calls, done := make([]int, len(l)), make([]int, len(l)), make([]bool, len(l))
	before := make([]int, len(l))
	cells, events := e.Memory.Cells(), slices.Clone(e.Events)
	for i, c := range l {
		steps[i], before[i] = c.steps, c.calls
	}
	for _, p := range picks {
		i := remainder(p, len(l))
		if done[i] {
			continue
		}
		calls[i]++
		if steps[i] < l[i].last {
			steps[i]++
			cells[i]++
			events = append(events, api.Event{Kind: api.EvPark, Worker: i, Task: steps[i]})
		}
		done[i] = steps[i] == l[i].last
	}
	xs, same := machines(l), slices.Clone(picks)
	what := fmt.Sprintf("Interleave of %d machines with the picks %v", len(l), picks)
	if g := machine.Interleave(e, xs, picks); !slices.Equal(g, calls) {
		t.Errorf("%s = %v, want %v", what, g, calls)
	}
	for i, c := range l {
		if c.calls-before[i] != calls[i] {
			t.Errorf("%s calls machine %d %d times, want %d", what, i, c.calls-before[i], calls[i])
		}
		if xs[i] != c {
			t.Errorf("%s changed machine %d of the list", what, i)
		}
	}
	if g := e.Memory.Cells(); !slices.Equal(g, cells) {
		t.Errorf("%s: the cells are %v, want %v", what, g, cells)
	}
	if !slices.Equal(e.Events, events) {
		t.Errorf("%s: the events are %v, want %v", what, e.Events, events)
	}
	if !slices.Equal(picks, same) {
		t.Errorf("%s: the picks became %v", what, picks)
	}
}

// P8.4, written out: several machines, of which one is done early; picks that are negative and larger than the number of machines.
func TestInterleaveWrittenOut(t *testing.T) {
	for _, x := range []struct {
		last, picks, want []int
		order             []int
	}{
		{[]int{2, 5}, []int{0, 1, 2, -1, 4, 0, 3}, []int{2, 3}, []int{0, 1, 0, 1, 1}},
		{[]int{never}, []int{0, 1, -1, 7, math.MinInt, math.MaxInt}, []int{6}, []int{0, 0, 0, 0, 0, 0}},
		{[]int{3}, []int{5, 5, 5, 5, 5}, []int{3}, []int{0, 0, 0}},
		{[]int{never, never, never}, []int{0, 1, 2, 3, 4, 5}, []int{2, 2, 2}, []int{0, 1, 2, 0, 1, 2}},
		{[]int{never, never, never}, []int{-1, -2, -3, -4, -5, -6}, []int{2, 2, 2}, []int{2, 1, 0, 2, 1, 0}},
		{[]int{never, never, never}, []int{2, 2, -1, -4, 5}, []int{0, 0, 5}, []int{2, 2, 2, 2, 2}},
		// The greatest int is 1 more than a multiple of 3, and 3 more than a multiple of 4; the least one is 1 more than a multiple of 3, and a multiple of 4.
		{[]int{never, never, never}, []int{math.MaxInt, math.MinInt, math.MaxInt - 1, math.MinInt + 1}, []int{1, 2, 1}, []int{1, 1, 0, 2}},
		{[]int{never, never, never, never}, []int{math.MaxInt, math.MinInt, math.MaxInt - 1, math.MinInt + 1}, []int{1, 1, 1, 1}, []int{3, 0, 2, 1}},
		{[]int{1, 1, 1}, []int{2, 2, 1, 0, 1, 0, 2}, []int{1, 1, 1}, []int{2, 1, 0}},
		{[]int{0, 2}, []int{0, 0, 1, 0, 1, 1}, []int{1, 2}, []int{1, 1}},
		{[]int{2, 2}, nil, []int{0, 0}, nil},
		{[]int{2, 2}, []int{}, []int{0, 0}, nil},
	} {
		e, l := machine.Bare(len(x.last)), counters(x.last...)
		if g := machine.Interleave(e, machines(l), x.picks); !slices.Equal(g, x.want) {
			t.Errorf("machines done with the steps %v, picks %v: %v, want %v", x.last, x.picks, g, x.want)
		}
		var order []int
		for _, v := range e.Events {
			order = append(order, v.Worker)
		}
		if !slices.Equal(order, x.order) {
			t.Errorf("machines done with the steps %v, picks %v: the order of the steps is %v, want %v", x.last, x.picks, order, x.order)
		}
	}
}

// P8.4: all kinds of picks for several numbers of machines; each call goes on with the machines of the call before, some of which are done.
func TestInterleave(t *testing.T) {
	for _, last := range [][]int{{0}, {1}, {never}, {1, 3}, {0, never}, {4, 2, 9}, {never, 1, 0, 2, 30, 5, 7}, make([]int, 40)} {
		e, l := machine.Bare(len(last)), counters(last...)
		checkInterleave(t, e, l, nil)
		checkInterleave(t, e, l, numbers())
		for n := range 60 {
			var picks []int
			for i := range n {
				picks = append(picks, (i+1)*(i+n)*31>>2-n*n)
			}
			checkInterleave(t, e, l, picks)
		}
		checkInterleave(t, e, l, append(numbers(), numbers()...))
	}
}

// P8.4: all lists of up to four picks from -3 to 5, for up to three machines, of which each is done with its first or its second step or never.
func TestInterleaveAll(t *testing.T) {
	lists := [][]int{nil}
	for i := 0; i < len(lists) && len(lists[i]) < 4; i++ {
		for p := -3; p <= 5; p++ {
			lists = append(lists, append(slices.Clone(lists[i]), p))
		}
	}
	for _, last := range [][]int{{1}, {2}, {never}, {1, 2}, {2, 1}, {never, 2}, {1, 2, never}, {2, 2, 1}} {
		for _, picks := range lists {
			checkInterleave(t, machine.Bare(len(last)), counters(last...), picks)
			if t.Failed() {
				return
			}
		}
	}
}

// P8.4: without machines the list is empty, whatever the picks are.
func TestInterleaveNothing(t *testing.T) {
	e := machine.Bare(2)
	want := state(e)
	for _, xs := range [][]machine.Machine{nil, {}} {
		for _, picks := range [][]int{nil, {}, {0}, {1, 2}, {-1}, numbers()} {
			if g := machine.Interleave(e, xs, picks); len(g) != 0 {
				t.Errorf("Interleave of no machines with the picks %v = %v", picks, g)
			}
		}
	}
	checkState(t, "Interleave of no machines", e, want)
}

// P8.4: a second call steps machines that were done in the first one once more each; they do nothing.
func TestInterleaveAgain(t *testing.T) {
	e, l := machine.Bare(3), counters(2, never, 1)
	xs := machines(l)
	if g := machine.Interleave(e, xs, []int{0, 0, 0, 2, 2, 1}); !slices.Equal(g, []int{2, 1, 1}) {
		t.Errorf("the first Interleave = %v", g)
	}
	if g := machine.Interleave(e, xs, []int{0, 0, 1, 2, 0, 2, 1}); !slices.Equal(g, []int{1, 2, 1}) {
		t.Errorf("the second Interleave = %v", g)
	}
	if g := machine.Interleave(e, xs, []int{1}); !slices.Equal(g, []int{0, 1, 0}) {
		t.Errorf("the third Interleave = %v", g)
	}
	if g := e.Memory.Cells(); !slices.Equal(g, []uint64{2, 4, 1}) {
		t.Errorf("the cells are %v", g)
	}
	if l[0].calls != 3 || l[1].calls != 4 || l[2].calls != 2 {
		t.Errorf("the machines were called %d, %d and %d times", l[0].calls, l[1].calls, l[2].calls)
	}
}

// P8.4: a machine that is two elements of the list is two machines by their numbers: each number is called until Step has returned true for it.
func TestInterleaveTwice(t *testing.T) {
	for _, x := range []struct{ picks, want, cells []int }{
		{[]int{0, 1, 0, 1, 0}, []int{2, 2}, []int{3}},
		{[]int{0, 0, 0, 0, 0}, []int{3, 0}, []int{3}},
		{[]int{0, 0, 0, 1, 1, 0}, []int{3, 1}, []int{3}},
		{[]int{1, 1, 0, 1, 0, 1}, []int{1, 3}, []int{3}},
		{[]int{1, 0}, []int{1, 1}, []int{2}},
	} {
		e, c := machine.Bare(1), &counter{last: 3}
		if g := machine.Interleave(e, []machine.Machine{c, c}, x.picks); !slices.Equal(g, x.want) {
			t.Errorf("the same machine twice, picks %v: %v, want %v", x.picks, g, x.want)
		}
		if g := int(e.Memory.Peek(0)); g != x.cells[0] || c.calls != x.want[0]+x.want[1] {
			t.Errorf("the same machine twice, picks %v: %d lines in %d calls", x.picks, g, c.calls)
		}
	}
}

// P8.4 and R1: machines of several types in one list, some of which cannot be compared and some of which are equal; only Step is called, with the given environment.
func TestInterleaveTypes(t *testing.T) {
	e := machine.Bare(4)
	e.Clock.Set(1)
	calls := 0
	f := called(func(g *machine.Env) bool {
		if g != e {
			t.Error("Step is called with another environment")
		}
		calls++
		g.Clock.Set(g.Clock.Draw(6) + 1)
		return calls%2 == 0
	})
	xs := []machine.Machine{f, drawing{}, &counter{cell: 3, last: 2}, f, drawing{}}
	// The draws that machine 0 and machine 3 set are 2, 3, 4 and 5, the last one of which is 0 modulo 5.
	g := machine.Interleave(e, xs, []int{0, 1, 2, 3, 3, 0, 4, 2, 2, 3, 0, 1, 1, 4})
	if want := []int{3, 2, 2, 1, 2}; !slices.Equal(g, want) {
		t.Errorf("Interleave = %v, want %v", g, want)
	}
	if calls != 4 || e.Memory.Peek(3) != 2 {
		t.Errorf("%d calls of the function, cell 3 contains %d", calls, e.Memory.Peek(3))
	}
}

// R2: equal calls for equal states give equal answers, of Run and of Interleave; a copy of a machine goes on like the machine.
func TestEqualCalls(t *testing.T) {
	e, l := used(t), counters(3, 8, never)
	machine.Interleave(e, machines(l), []int{0, 1, 2, 1})
	x := e.Copy()
	var copies []machine.Machine
	for _, c := range l {
		copies = append(copies, c.Copy())
	}
	picks := []int{2, 1, -5, 0, 0, 4, 1, 1, 8, 0}
	a, b := machine.Interleave(e, machines(l), picks), machine.Interleave(x, copies, picks)
	if !slices.Equal(a, b) {
		t.Errorf("Interleave = %v, of copies %v", a, b)
	}
	checkState(t, "after Interleave of copies", x, state(e))
	for i, c := range l {
		s1, d1 := machine.Run(e, c, 20)
		s2, d2 := machine.Run(x, copies[i], 20)
		if s1 != s2 || d1 != d2 {
			t.Errorf("Run of machine %d = %d, %t, of its copy %d, %t", i, s1, d1, s2, d2)
		}
	}
	checkState(t, "after Run of copies", x, state(e))
}

// R3: the list that Interleave returns is a new one each time, and the given lists are not kept.
func TestInterleaveResultIsNew(t *testing.T) {
	e, l := machine.Bare(2), counters(never, never)
	xs, picks := machines(l), []int{0, 1, 0}
	a := machine.Interleave(e, xs, picks)
	b := machine.Interleave(e, xs, picks)
	a[0], a[1], picks[0], picks[1] = 77, 78, 79, 80
	if !slices.Equal(b, []int{2, 1}) {
		t.Errorf("a list that was not changed is %v", b)
	}
	// All picks denote number 0 or 1 as before: 79 and 80 modulo 2 are 1 and 0.
	if g := machine.Interleave(e, xs, picks); !slices.Equal(g, []int{2, 1}) {
		t.Errorf("Interleave with changed picks = %v", g)
	}
	if picks[0] != 79 || picks[1] != 80 || picks[2] != 0 {
		t.Errorf("the picks became %v", picks)
	}
}

// The chapter's example, with a machine that makes an access with each step.
func TestExample(t *testing.T) {
	e := machine.Bare(1)
	if s, d := machine.Run(e, &counter{last: 3}, 10); s != 3 || !d || e.Memory.Count() != 3 {
		t.Errorf("example 1: Run with most 10 = %d, %t after %d accesses, want 3, true", s, d, e.Memory.Count())
	}
	e = machine.Bare(1)
	if s, d := machine.Run(e, &counter{last: 3}, 2); s != 2 || d || e.Memory.Count() != 2 {
		t.Errorf("example 1: Run with most 2 = %d, %t after %d accesses, want 2, false", s, d, e.Memory.Count())
	}
}
