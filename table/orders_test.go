package table_test

import (
	"fmt"
	"slices"
	"testing"

	"worksteal/api"
	"worksteal/levels"
	"worksteal/machine"
	"worksteal/steptest"
	"worksteal/table"
)

// times returns machines that are made by equal calls.
func times(n int, begin func() machine.Machine) []machine.Machine {
	var l []machine.Machine
	for range n {
		l = append(l, begin())
	}
	return l
}

// claims returns Claims of a worker and task 2.
func claims(worker, n int) []machine.Machine {
	return times(n, func() machine.Machine { return table.Claim(worker, 2) })
}

// checkAllocated reports an error if the numbers that were given out are not the first ones there are, each one once, or if an actor has got them in another order than an ascending one.
func checkAllocated(t *testing.T, s steptest.Scene) {
	t.Helper()
	var got []int
	asked := 0
	for _, a := range s.Actors {
		last := -1
		for _, r := range a.Results {
			asked++
			switch {
			case r.Code == api.Full && r.Value == 0:
				last = s.Env.Config.Tasks
			case r.Code == api.Got && r.Value > last:
				last = r.Value
				got = append(got, r.Value)
			default:
				t.Errorf("the results of an actor are %v", a.Results)
			}
		}
	}
	slices.Sort(got)
	if want := min(asked, s.Env.Config.Tasks); len(got) != want {
		t.Errorf("%d numbers were asked for and %d given out, want %d", asked, len(got), want)
	}
	for i, v := range got {
		if v != i {
			t.Errorf("the numbers %v were given out", got)
		}
	}
	if g := s.Env.Memory.Peek(next); g != uint64(asked) {
		t.Errorf("%d numbers were asked for, and Next contains %d", asked, g)
	}
}

// P18.1: all orders in which several machines allocate. Each number is given out exactly once, and the last ones get none.
func TestAllocateOrders(t *testing.T) {
	for _, lists := range [][]int{{1, 1}, {2, 3}, {3, 2, 2}, {1, 4, 1, 1}, {4, 4}} {
		for _, tasks := range []int{1, 2, 5, 20} {
			s := steptest.Play(steptest.Made(sized(2, 1, tasks, 1)))
			for _, n := range lists {
				s.Actors = append(s.Actors, steptest.Actor{Left: times(n, table.Allocate)})
			}
			steptest.Orders(s, func(s steptest.Scene) { checkAllocated(t, s) })
		}
	}
}

// P18.1: long orders in which as many machines as there can be allocate all numbers of tasks.
func TestAllocateLongOrders(t *testing.T) {
	for seed := range 8 {
		s := steptest.Play(steptest.Made(sized(16, 1, 256, 1)))
		for range 17 {
			s.Actors = append(s.Actors, steptest.Actor{Left: times(18, table.Allocate)})
		}
		checkAllocated(t, steptest.Order(s, steptest.Mixed(uint64(seed))))
	}
}

// madeReady is the kind of the event of a noted machine that makes a task ready. It is no kind of the program.
const madeReady = 99

// A noted machine emits an event of this kind with the step that makes task 2 ready, so that the events tell the order of such steps and of claims.
type noted struct{ machine.Machine }

func (n *noted) Step(e *machine.Env) bool {
	count := e.Memory.Count()
	done := n.Machine.Step(e)
	ready := api.Access{Kind: api.AccessStore, Cell: own.State, New: api.Ready}
	if last := e.Memory.Last(); e.Memory.Count() > count && last.Kind == ready.Kind && last.Cell == ready.Cell && last.New == ready.New {
		e.Emit(api.Event{Kind: madeReady, Task: 2})
	}
	return done
}

func (n *noted) Copy() machine.Machine { return &noted{n.Machine.Copy()} }

// wanted returns the kind of the event of the next claim behind events, which are those of task 2: of the Claims between two times that it is made ready the first one gets it.
func wanted(events []api.Event) int {
	ready, started := false, false
	for _, v := range events {
		switch {
		case v.Kind == madeReady:
			ready = true
		case ready:
			ready, started = false, true
		}
	}
	switch {
	case !ready:
		return api.EvSkip
	case started:
		return api.EvResume
	}
	return api.EvStart
}

// checkClaims reports an error if a Claim of task 2 got it which was not the first one since the task was made ready, or if none got it though one was, and if the cells, the record and the results tell anything else than the events.
func checkClaims(t *testing.T, s steptest.Scene) {
	t.Helper()
	events := s.Env.Events[1:]
	got := map[int]int{}
	for i, v := range events {
		if v.Kind == madeReady {
			continue
		}
		if want := wanted(events[:i]); v.Kind != want {
			t.Errorf("event %d of %v is of kind %d, want %d", i, events, v.Kind, want)
		}
		if v.Kind != api.EvSkip {
			got[v.Worker]++
		}
	}
	free := wanted(events) != api.EvSkip
	if g := s.Env.Memory.Peek(own.State); free != (g == api.Ready) || !free && len(got) > 0 && g != api.Running {
		t.Errorf("the state is %d behind the events %v", g, events)
	}
	if g := s.Env.Records[2].Started; g != (len(got) > 0) {
		t.Errorf("the task has started: %t, behind the events %v", g, events)
	}
	for worker, a := range s.Actors {
		n := 0
		for _, r := range a.Results {
			if r == (steptest.Result{Code: api.Got, Value: 2}) {
				n++
			}
		}
		if n != got[worker] {
			t.Errorf("actor %d got the task %d times, by the events %v, want %d", worker, n, events, got[worker])
		}
	}
}

// P18.3 and the chapter's consequence: all orders of machines that claim one task, and of others that make it ready. Exactly one Claim succeeds each time.
func TestClaimOrders(t *testing.T) {
	publish := func() machine.Machine { return &noted{table.Publish(2, 1)} }
	enter := func() machine.Machine { return &noted{table.Enter(1, 2)} }
	for i, s := range []steptest.Scene{
		steptest.Play(steptest.Made(home), claims(0, 2), claims(1, 2), claims(2, 2), times(1, publish)),
		steptest.Play(steptest.Made(home), claims(0, 2), claims(1, 3), times(2, publish)),
		steptest.Play(steptest.Made(home), claims(0, 2), claims(1, 2), times(1, enter)),
		steptest.Play(steptest.Made(home), claims(0, 1), claims(1, 2), []machine.Machine{publish(), enter()}),
		steptest.Play(steptest.Made(home), claims(0, 2), times(1, enter), times(1, publish)),
	} {
		ends, most := 0, 0
		steptest.Orders(s, func(s steptest.Scene) {
			checkClaims(t, s)
			if s.Over() {
				ends++
				most = max(most, len(slices.DeleteFunc(slices.Clone(s.Env.Events), func(v api.Event) bool { return v.Kind != api.EvResume })))
			}
		})
		if ends < 10 || (most > 0) == (i == 0 || i == 2) {
			t.Errorf("scene %d has %d ends, in one of which the task resumes %d times", i, ends, most)
		}
	}
}

// P18.3: long orders of many machines at one task.
func TestClaimLongOrders(t *testing.T) {
	publish := func() machine.Machine { return &noted{table.Publish(2, 1)} }
	for seed := range 30 {
		s := steptest.Play(steptest.Made(home), claims(0, 40), claims(1, 40), claims(2, 40), times(20, publish))
		checkClaims(t, steptest.Order(s, steptest.Mixed(uint64(seed))))
	}
}

// P18.2: whatever the order, one that gets a new task finds the level and the time that were published, since the task is made ready behind these.
func TestPublishOrders(t *testing.T) {
	e := steptest.Made(home, join(is(own.Level, 9), is(own.Since, 9))...)
	s := steptest.Play(e, []machine.Machine{table.Publish(2, 1)}, claims(0, 2))
	claimed := 0
	steptest.Orders(s, func(s steptest.Scene) {
		if s.Env.Memory.Peek(own.State) == api.Absent {
			return
		}
		claimed++
		if level, since := s.Env.Memory.Peek(own.Level), s.Env.Memory.Peek(own.Since); level != 1 || since != 1 {
			t.Errorf("a task that is ready has the level %d and is so since %d", level, since)
		}
	})
	if claimed == 0 {
		t.Error("the task is never ready")
	}
}

// P18.4: whatever the order in which an owner enters a task and pops, and a thief of its own tries to claim, one of them gets the task, and the entry is found once.
func TestEnterOrders(t *testing.T) {
	e := steptest.Made(home, wants(1)...)
	owner := []machine.Machine{table.Enter(1, 2), levels.Pop(1), table.Claim(1, 2), levels.Pop(1)}
	ends := map[string]int{}
	steptest.Orders(steptest.Play(e, owner, claims(0, 2)), func(s steptest.Scene) {
		if !s.Over() {
			return
		}
		l := s.Actors[0].Results
		if l[0] != (steptest.Result{Code: api.Fine, Value: 1}) || l[1] != (steptest.Result{Code: api.Got, Value: 2}) || l[3] != (steptest.Result{Code: api.Empty}) {
			t.Errorf("the results of the owner are %v", l)
		}
		got := 0
		for _, r := range append(slices.Clone(s.Actors[1].Results), l[2]) {
			if r.Code == api.Got {
				got++
			}
		}
		if got != 1 {
			t.Errorf("%d machines got the task", got)
		}
		ends[fmt.Sprint(l[2].Code, s.Actors[1].Results)]++
	})
	if len(ends) != 3 {
		t.Errorf("the ends are %v, want one for each Claim that gets the task", ends)
	}
}
