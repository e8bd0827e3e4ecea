package table_test

import (
	"fmt"
	"slices"
	"testing"

	"worksteal/api"
	"worksteal/levels"
	"worksteal/machine"
	"worksteal/steptest"
	"worksteal/table"
)

// A call is one of the functions, with its arguments.
type call struct{ function, worker, task, level int }

// machine returns the machine of a call.
func (c call) machine() machine.Machine {
	return []func() machine.Machine{
		table.Allocate,
		func() machine.Machine { return table.Publish(c.task, c.level) },
		func() machine.Machine { return table.Claim(c.worker, c.task) },
		func() machine.Machine { return table.Enter(c.worker, c.task) },
		func() machine.Machine { return levels.Pop(c.worker) },
	}[c.function]()
}

// perform performs the lines of a call one after another, as the chapter writes them down, and returns the result.
func (c call) perform(e *machine.Env) (code, value int) {
	is := 0 <= c.task && c.task < e.Config.Tasks
	r, m := rowOf(e.Config, c.task), e.Memory
	switch {
	case c.function == 0:
		if id := m.Add(next, 1); id < uint64(e.Config.Tasks) {
			return api.Got, int(id)
		}
		return api.Full, 0
	case c.function == 2:
		return c.claim(e, is && m.CAS(r.State, api.Ready, api.Running))
	case c.function == 4:
		return run(e, levels.Pop(c.worker))
	case !is:
		return api.Abort, 0
	case c.function == 1:
		m.Store(r.Level, uint64(c.level))
		m.Store(r.Since, uint64(e.Clock.Now()))
		m.Store(r.State, api.Ready)
		return api.Fine, 0
	}
	m.Store(r.Since, uint64(e.Clock.Now()))
	m.Store(r.State, api.Ready)
	p := int(m.Load(r.Level))
	code, _ = run(e, levels.Push(c.worker, p, c.task))
	return code, p
}

// claim does what a Claim does behind its access.
func (c call) claim(e *machine.Env, ready bool) (code, value int) {
	if !ready {
		e.Emit(api.Event{Kind: api.EvSkip, Worker: c.worker, Task: c.task})
		return api.Abort, 0
	}
	kind := api.EvStart
	if e.Records[c.task].Started {
		kind = api.EvResume
	}
	e.Records[c.task].Started = true
	e.Emit(api.Event{Kind: kind, Worker: c.worker, Task: c.task})
	return api.Got, c.task
}

// run performs the steps of a machine and returns its result.
func run(e *machine.Env, x machine.Machine) (code, value int) {
	machine.Run(e, x, 1000)
	return x.Result()
}

// P18.1 to P18.4: long lists of calls on one table, with numbers that are now and then none, beside the same lines without machines. Both have the same results and accesses, and all cells, records and events are the same.
func TestLines(t *testing.T) {
	codes := map[string]int{}
	for seed, c := range slices.Repeat(sizes()[:4], 10) {
		some := steptest.Mixed(uint64(seed))
		e := recorded(c, nil)
		f := e.Copy()
		for i := range 200 {
			x := call{some(5), some(c.Workers+2) - 1, some(c.Tasks+2) - 1, some(c.Levels+2) - 1}
			if some(3) == 0 {
				e.Clock.Tick()
				f.Clock.Tick()
			}
			code, value := run(e, x.machine())
			wantCode, wantValue := x.perform(f)
			codes[fmt.Sprint(x.function, code)]++
			if code != wantCode || value != wantValue || e.Memory.Last() != f.Memory.Last() || e.Memory.Count() != f.Memory.Count() || fmt.Sprint(e.Memory.Cells(), e.Records, e.Events) != fmt.Sprint(f.Memory.Cells(), f.Records, f.Events) {
				t.Fatalf("seed %d, call %d, %v: %d, %d, want %d, %d", seed, i, x, code, value, wantCode, wantValue)
			}
		}
	}
	// Each function has come to each of its ends.
	if len(codes) != 2+2+2+3+2 {
		t.Errorf("only the codes %v occur", codes)
	}
}
