package steptest_test

import (
	"slices"
	"testing"

	"worksteal/api"
	"worksteal/machine"
	"worksteal/steptest"
)

// faulty returns movers that do something wrong before they are done, or whose result is wrong.
func faulty() []fault { return slices.Concat(accesses(), results(), others()) }

// A machine without faults has none in copies either, and its accesses, its end and its result are compared with what they must be.
func TestCheckMoves(t *testing.T) {
	var r recorder
	if steptest.CheckMoves(&r, way(mover{}), way(mover{})); len(r) != 0 {
		t.Errorf("faults of a machine without any: %q", r)
	}
	for _, f := range faulty() {
		r = nil
		if steptest.CheckMoves(&r, way(mover{}), way(f.m)); len(r) == 0 {
			t.Errorf("%s is not reported by CheckMoves", f.what)
		}
	}
}

// keeper returns a mover that keeps the environment of its first step, and does something there with its second one.
func keeper(late func(e *machine.Env)) *mover {
	var kept *machine.Env
	m := &mover{}
	m.beside = func(e *machine.Env) {
		if kept == nil {
			kept = e
		} else {
			late(kept)
		}
	}
	return m
}

// What a machine still does in an environment that it has left is a fault, and so is what it still takes from there.
func TestCheckMovesLeft(t *testing.T) {
	for i, late := range []func(e *machine.Env){
		func(e *machine.Env) {},
		func(e *machine.Env) { e.Memory.Store(0, 1) },
		func(e *machine.Env) { e.Memory.Load(0) },
		func(e *machine.Env) { e.Clock.Tick() },
		func(e *machine.Env) { e.Emit(api.Event{Kind: api.EvPark}) },
		func(e *machine.Env) { e.Config.Age++ },
	} {
		w := way(mover{})
		w.Make = func() machine.Machine { return keeper(late) }
		// The environment of the first step is a copy that is left before the second one.
		var r recorder
		if steptest.CheckMoves(&r, w); (len(r) == 0) != (i == 0) {
			t.Errorf("deed %d in an environment that was left: the faults are %q", i, r)
		}
	}
	var kept *machine.Env
	w := way(mover{})
	w.Make = func() machine.Machine {
		m := &mover{}
		m.beside = func(e *machine.Env) {
			if kept == nil {
				kept = e
			}
		}
		m.last = func(e *machine.Env) { e.Memory.Store(1, kept.Memory.Peek(0)) }
		return m
	}
	w.Steps[1] = steptest.Store(1, 8, 7)
	var r recorder
	if steptest.CheckMoves(&r, w); len(r) == 0 {
		t.Error("a machine that looks at what it has left is not reported")
	}
}

// Two machines without faults have none, and those of each of the two are found.
func TestCheckPairs(t *testing.T) {
	var r recorder
	if steptest.CheckPairs(&r, way(mover{}), way(mover{})); len(r) != 0 {
		t.Errorf("faults of a machine without any: %q", r)
	}
	for _, f := range faulty() {
		for _, second := range []bool{false, true} {
			made := 0
			w := way(mover{})
			w.Make = func() machine.Machine {
				made++
				if (made == 2) == second {
					c := f.m
					return &c
				}
				return &mover{}
			}
			r = nil
			if steptest.CheckPairs(&r, w); len(r) == 0 || made != 2 {
				t.Errorf("%s is not reported by CheckPairs, in the second machine: %t", f.what, second)
			}
		}
	}
	// Both calls return one machine.
	w, one := way(mover{}), &mover{}
	w.Make = func() machine.Machine { return one }
	r = nil
	if steptest.CheckPairs(&r, w); len(r) == 0 {
		t.Error("one machine for two calls is not reported by CheckPairs")
	}
}
