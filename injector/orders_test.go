package injector_test

import (
	"fmt"
	"slices"
	"testing"

	"worksteal/api"
	"worksteal/edf"
	"worksteal/injector"
	"worksteal/lock"
	"worksteal/machine"
	"worksteal/parts"
	"worksteal/steptest"
)

// A visit runs a machine that takes the lock, and if that got it, an Insert or a Remove and a Release. It is done with the result of the second one, or with Busy. When an Insert has inserted a task, it emits that the task is accepted, with the deadline as Other.
type visit struct {
	parts.Outer
	owner, deadline, task int
	inserts, waits        bool
	code, value           int
}

// take returns the machine that takes the lock.
func (v *visit) take() machine.Machine {
	if v.waits {
		return lock.Acquire(v.owner)
	}
	return lock.Try(v.owner)
}

// work returns the machine that runs under the lock.
func (v *visit) work() machine.Machine {
	if v.inserts {
		return injector.Insert(v.deadline, v.task)
	}
	return injector.Remove(v.owner)
}

func (v *visit) Step(e *machine.Env) bool {
	switch v.Line() {
	case 1:
		code, _, done := v.Run(e, v.take)
		switch {
		case !done:
			return false
		case code == api.Busy:
			return v.End(api.Busy, 0)
		}
		return v.Next(2)
	case 2:
		code, value, done := v.Run(e, v.work)
		if !done {
			return false
		}
		v.code, v.value = code, value
		if code == api.Fine {
			e.Emit(api.Event{Kind: api.EvAccept, Worker: v.owner, Task: v.task, Other: v.deadline})
		}
		return v.Next(3)
	case 3:
		v.Run(e, lock.Release)
		return v.End(v.code, v.value)
	}
	return true
}

func (v *visit) Copy() machine.Machine {
	c := *v
	c.Detach()
	return &c
}

// puts returns a visit that inserts a task.
func puts(owner, deadline, task int) *visit {
	return &visit{Outer: parts.Around(), owner: owner, deadline: deadline, task: task, inserts: true}
}

// gets returns a visit that removes a task.
func gets(owner int) *visit { return &visit{Outer: parts.Around(), owner: owner} }

// content returns the keys that are in the injector behind events, in order. It reports an error if a task is removed that is not the one of the least key that is there.
func content(t *testing.T, events []api.Event) []uint64 {
	t.Helper()
	var l []uint64
	arrivals := uint64(0)
	for i, v := range events {
		switch v.Kind {
		case api.EvAccept:
			l = append(l, key(uint64(v.Other), arrivals, uint64(v.Task)))
			arrivals++
		case api.EvRemove:
			if len(l) == 0 || l[0]%65536 != uint64(v.Task) {
				t.Errorf("event %d of %v: the keys that are there are %v", i, events, l)
				return nil
			}
			l = l[1:]
		}
		slices.Sort(l)
	}
	return l
}

// checkScene reports an error if the injector does not contain in a scene what its events say, as a heap. While the lock is held the heap may not be complete.
func checkScene(t *testing.T, s steptest.Scene) {
	t.Helper()
	want := content(t, s.Env.Events)
	if s.Env.Memory.Peek(lockCell) != 0 {
		return
	}
	got := slotsOf(s.Env, int(s.Env.Memory.Peek(sizeCell)))
	if !edf.Valid(got) || !slices.Equal(edf.Sorted(got), want) {
		t.Errorf("behind the events %v the keys are %v, want %v", s.Env.Events, got, want)
	}
}

// free returns an environment with an empty injector whose lock is free.
func free(heap int) *machine.Env {
	e := room(heap, 0, 0)
	e.Memory.Store(lockCell, 0)
	return e
}

// A list is what an actor of a scene runs.
type list = []machine.Machine

// Example 4 and P5 of the document: in all orders of the steps of machines that insert and remove under the lock, each removal takes the least key that is there, and nothing is lost.
func TestAllOrders(t *testing.T) {
	for i, s := range []steptest.Scene{
		steptest.Play(free(3), list{puts(2, 9, 0), puts(2, 4, 1)}, list{gets(0), gets(0)}),
		steptest.Play(free(3), list{puts(2, 9, 0), gets(2)}, list{puts(1, 4, 1), gets(1)}),
		steptest.Play(free(2), list{puts(2, 4, 0), puts(2, 4, 1), puts(2, 3, 2)}, list{gets(0), gets(0), gets(0)}),
		steptest.Play(free(1), list{puts(2, 4, 0), puts(2, 3, 1)}, list{gets(0)}, list{gets(1)}),
		steptest.Play(free(3), list{puts(3, 9, 0)}, list{puts(4, 8, 1)}, list{puts(5, 7, 2), gets(0)}),
	} {
		results := map[string]bool{}
		steptest.Orders(s, func(s steptest.Scene) {
			if t.Failed() {
				return
			}
			checkScene(t, s)
			if s.Over() {
				results[fmt.Sprint(s.Env.Events)] = true
			}
		})
		if len(results) < 3 {
			t.Errorf("scene %d: all orders lead to %d lists of events", i, len(results))
		}
	}
}

// The same for many orders of the steps of many machines, which wait for the lock or ask once.
func TestManyOrders(t *testing.T) {
	codes := map[int]int{}
	for seed := range 60 {
		some := steptest.Mixed(uint64(seed))
		actors := make([]list, 2+some(5))
		for i := range actors {
			for range 12 {
				v := gets(i)
				if some(20) < 11 {
					v = puts(i, some(5), some(256))
				}
				v.waits = some(3) > 0
				actors[i] = append(actors[i], v)
			}
		}
		end := steptest.Order(steptest.Play(free(1+some(9)), actors...), some)
		checkScene(t, end)
		for _, a := range end.Actors {
			for _, r := range a.Results {
				codes[r.Code]++
			}
		}
	}
	for _, code := range []int{api.Fine, api.Full, api.Busy, api.Got, api.Empty} {
		if codes[code] < 50 {
			t.Errorf("only %d machines were done with the code %d", codes[code], code)
		}
	}
}
