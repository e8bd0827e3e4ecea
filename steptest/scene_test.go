package steptest_test

import (
	"fmt"
	"slices"
	"testing"

	"worksteal/api"
	"worksteal/machine"
	"worksteal/steptest"
)

// swaps returns a mover, which moves cell 0 to cell 1, and one that loads cell 0 and stores 9 there: their order matters.
func swaps() (to, from *mover) {
	return &mover{}, &mover{last: func(e *machine.Env) { e.Memory.Store(0, 9) }}
}

// ends returns what all orders of a scene lead to, as texts in order.
func ends(s steptest.Scene, show func(s steptest.Scene) string) []string {
	var l []string
	steptest.Orders(s, func(s steptest.Scene) {
		if s.Over() {
			l = append(l, show(s))
		}
	})
	slices.Sort(l)
	return slices.Compact(l)
}

// cellsOf returns the cells of a scene as a text.
func cellsOf(s steptest.Scene) string { return fmt.Sprint(s.Env.Memory.Cells()) }

// A step of an actor is one of the first machine that is left; its result is kept, and the scene before stays as it is.
func TestSceneStep(t *testing.T) {
	e := steptest.Filled([]uint64{7, 8})
	to, from := swaps()
	a := steptest.Play(e, []machine.Machine{to, from}, nil)
	b := a.Step(0)
	c := b.Step(0)
	d := c.Step(0).Step(0)
	for i, s := range []steptest.Scene{a, b, c, d} {
		left, results := []int{2, 2, 1, 0}[i], []int{0, 0, 1, 2}[i]
		if g := s.Actors[0]; len(g.Left) != left || len(g.Results) != results || s.Over() != (left == 0) {
			t.Errorf("scene %d: %d machines are left, with %d results, over is %t", i, len(g.Left), len(g.Results), s.Over())
		}
		if g, want := cellsOf(s), []string{"[7 8]", "[7 8]", "[7 7]", "[9 7]"}[i]; g != want {
			t.Errorf("scene %d: the cells are %s, want %s", i, g, want)
		}
	}
	if g := d.Actors[0].Results; !slices.Equal(g, []steptest.Result{{Code: api.Got, Value: 7}, {Code: api.Got, Value: 7}}) {
		t.Errorf("the results are %v", g)
	}
	if to.steps != 0 || from.steps != 0 {
		t.Errorf("the machines of the first scene have performed %d and %d steps", to.steps, from.steps)
	}
}

// Orders plays every order: all ends occur, and each scene on the way once, the first one first.
func TestOrders(t *testing.T) {
	e := steptest.Filled([]uint64{7, 8})
	to, from := swaps()
	s := steptest.Play(e, []machine.Machine{to}, []machine.Machine{from})
	if g := ends(s, cellsOf); !slices.Equal(g, []string{"[9 7]", "[9 9]"}) {
		t.Errorf("the ends have the cells %q", g)
	}
	var left []string
	steptest.Orders(s, func(s steptest.Scene) {
		left = append(left, fmt.Sprint(len(s.Actors[0].Left), len(s.Actors[1].Left)))
	})
	// Each actor has no step, one or two behind it; where the second one is done, the first one may have loaded either of two numbers.
	if len(left) != 9+2 || left[0] != "1 1" {
		t.Errorf("the scenes that are looked at have %q machines left, want 11 scenes", left)
	}
}

// Scenes in which a machine has loaded something else, or in which a result alone differs, are different ones.
func TestOrdersKeepWhatDiffers(t *testing.T) {
	e := steptest.Filled([]uint64{7, 8})
	reader := &mover{last: func(e *machine.Env) {}}
	// Behind its three steps the cells are as at first, and only the reader may know that they were not.
	there := &mover{early: -1}
	there.last = func(e *machine.Env) { e.Memory.Store(0, 16-e.Memory.Peek(0)) }
	there.result = func(*mover) (code, value int) { return 0, 0 }
	results := func(s steptest.Scene) string { return fmt.Sprint(s.Actors[0].Results) }
	if g := ends(steptest.Play(e, []machine.Machine{reader}, []machine.Machine{there}), results); !slices.Equal(g, []string{"[{1 7}]", "[{1 9}]"}) {
		t.Errorf("the reader has the results %q", g)
	}
}

// Scenes in which the events alone differ are different ones.
func TestOrdersKeepEvents(t *testing.T) {
	emits := func(worker int) *mover {
		return &mover{
			last:   func(e *machine.Env) { e.Emit(api.Event{Kind: api.EvPark, Worker: worker}) },
			result: func(*mover) (code, value int) { return 0, 0 },
		}
	}
	events := func(s steptest.Scene) string { return fmt.Sprint(s.Env.Events[1:]) }
	want := []string{"[{16 1 0 0 0} {16 2 0 0 0}]", "[{16 2 0 0 0} {16 1 0 0 0}]"}
	if g := ends(steptest.Play(steptest.Filled([]uint64{7}), []machine.Machine{emits(1)}, []machine.Machine{emits(2)}), events); !slices.Equal(g, want) {
		t.Errorf("the ends have the events %q, want %q", g, want)
	}
}

// without returns a mover whose second line does something without an access, and whose result tells nothing.
func without(last func(e *machine.Env)) *mover {
	return &mover{last: last, result: func(*mover) (code, value int) { return 0, 0 }}
}

// Scenes in which a record alone differs are different ones, whatever differs of it.
func TestOrdersKeepRecords(t *testing.T) {
	a, b := api.Record{PC: 1, Kids: []int{5}, Started: true}, api.Record{PC: 1, Kids: []int{5}, Started: true}
	for i, change := range []func(r *api.Record){
		func(r *api.Record) {},
		func(r *api.Record) { r.Prog++ },
		func(r *api.Record) { r.Parent++ },
		func(r *api.Record) { r.PC++ },
		func(r *api.Record) { r.Left++ },
		func(r *api.Record) { r.Waiting++ },
		func(r *api.Record) { r.Kids = nil },
		func(r *api.Record) { r.Kids = []int{6} },
		func(r *api.Record) { r.Started = false },
	} {
		b := b
		change(&b)
		e := steptest.Filled([]uint64{7})
		e.Records = make([]api.Record, 2)
		writes := func(v api.Record) *mover { return without(func(e *machine.Env) { e.Records[1] = v }) }
		records := func(s steptest.Scene) string { return fmt.Sprint(s.Env.Records) }
		if g := ends(steptest.Play(e, []machine.Machine{writes(a)}, []machine.Machine{writes(b)}), records); (len(g) == 2) != (i > 0) {
			t.Errorf("change %d of a record: the ends have the records %q", i, g)
		}
	}
}

// Scenes in which the time alone differs are different ones, and so are those in which a machine has made its access at another time.
func TestOrdersKeepTimes(t *testing.T) {
	ticks := func(n int) *mover {
		return without(func(e *machine.Env) {
			for range n * (3 - e.Clock.Now()) {
				e.Clock.Tick()
			}
		})
	}
	times := func(s steptest.Scene) string { return fmt.Sprint(s.Env.Clock.Now()) }
	if g := ends(steptest.Play(steptest.Filled([]uint64{7}), []machine.Machine{ticks(1)}, []machine.Machine{ticks(2)}), times); !slices.Equal(g, []string{"3", "5"}) {
		t.Errorf("the ends have the times %q", g)
	}
	results := func(s steptest.Scene) string { return fmt.Sprint(s.Actors[0].Results) }
	if g := ends(steptest.Play(steptest.Filled([]uint64{7}), []machine.Machine{&watch{}}, []machine.Machine{ticks(1)}), results); !slices.Equal(g, []string{"[{1 1}]", "[{1 3}]"}) {
		t.Errorf("the watch has the results %q", g)
	}
}

// A watch loads cell 0, and is done with Got and the time of that with its second step, which makes no access.
type watch struct{ steps, time int }

func (w *watch) Step(e *machine.Env) bool {
	if w.steps == 0 {
		e.Memory.Load(0)
		w.time = e.Clock.Now()
	}
	w.steps++
	return w.steps > 1
}

func (w *watch) Result() (code, value int) {
	if w.steps < 2 {
		return 0, 0
	}
	return api.Got, w.time
}

func (w *watch) Copy() machine.Machine {
	c := *w
	return &c
}

// Order plays an order to its end, and other numbers lead to other orders.
func TestOrder(t *testing.T) {
	e := steptest.Filled([]uint64{7, 8})
	seen := map[string]bool{}
	for seed := range 40 {
		to, from := swaps()
		s := steptest.Order(steptest.Play(e, []machine.Machine{to}, []machine.Machine{from}, nil), steptest.Mixed(uint64(seed)))
		if !s.Over() || len(s.Actors[0].Results) != 1 || len(s.Actors[1].Results) != 1 || len(s.Actors[2].Results) != 0 {
			t.Errorf("seed %d: the end is %v", seed, s)
		}
		seen[cellsOf(s)] = true
	}
	if len(seen) != 2 || cellsOf(steptest.Play(e)) != "[7 8]" {
		t.Errorf("the ends are %v", seen)
	}
	if s := steptest.Order(steptest.Play(e), steptest.Mixed(1)); !s.Over() {
		t.Error("a scene without actors is not over")
	}
}
