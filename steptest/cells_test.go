package steptest_test

import (
	"slices"
	"testing"

	"worksteal/api"
	"worksteal/config"
	"worksteal/layout"
	"worksteal/levels"
	"worksteal/machine"
	"worksteal/owner"
	"worksteal/steptest"
)

// configurations returns configurations with few and with many cells.
func configurations() []api.Config {
	uneven := steptest.Sized(3, 2, 4, 5)
	uneven.Classes, uneven.Heap = 2, 7
	return []api.Config{steptest.Sized(1, 1, 1, 1), uneven, steptest.Sized(16, 64, 256, 3), steptest.Sized(1, 2, 3, 64)}
}

// The configurations are valid, and have the numbers that they are made of.
func TestSized(t *testing.T) {
	for _, c := range configurations() {
		if e := config.Check(c); e != api.OK {
			t.Errorf("the configuration %v has the error %d", c, e)
		}
	}
	if c := steptest.Sized(2, 3, 4, 5); c.Workers != 2 || c.Levels != 3 || c.Tasks != 4 || c.Deque != 5 || c.Age != 0 || c.Classes != 1 {
		t.Errorf("two workers, three levels, four tasks and five places: %v", c)
	}
}

// The cells that are counted here are those of package layout.
func TestCells(t *testing.T) {
	for _, c := range configurations() {
		l, _ := layout.New(c)
		for worker := range c.Workers {
			if g, want := steptest.BitsOf(c, worker), l.Bitmap(worker); g != want {
				t.Errorf("%v: the bitmap of worker %d is cell %d, want %d", c, worker, g, want)
			}
			for level := range c.Levels {
				if g, want := steptest.DequeOf(c, worker, level), l.Queue(worker, level); g != want {
					t.Errorf("%v: the deque of worker %d and level %d is %v, want %v", c, worker, level, g, want)
				}
			}
		}
		for i := range c.Tasks {
			want := steptest.Row{State: l.State(i), Level: l.Level(i), Join: l.Join(i), Waits: l.Waits(i), Since: l.Since(i)}
			if g := steptest.RowOf(c, i); g != want {
				t.Errorf("%v: the cells of task %d are %v, want %v", c, i, g, want)
			}
		}
	}
}

// The cells of all tasks but some are filled, each task with the same five numbers.
func TestBeside(t *testing.T) {
	c := steptest.Sized(1, 1, 4, 1)
	for _, x := range []struct {
		tasks, want []int
	}{{nil, []int{1, 1, 1, 1}}, {[]int{2}, []int{1, 1, 0, 1}}, {[]int{3, 0}, []int{0, 1, 1, 0}}, {[]int{-1, 4}, []int{1, 1, 1, 1}}} {
		var want []uint64
		for _, n := range x.want {
			for i := range 5 {
				want = append(want, uint64(n*(i+1)))
			}
		}
		e := steptest.Made(c, steptest.Beside(c, x.tasks...)...)
		first := steptest.RowOf(c, 0).State
		if g := e.Memory.Cells(); !slices.Equal(g[first:], want) || slices.Max(g[:first]) != 0 {
			t.Errorf("all tasks but %v: the cells are %v", x.tasks, g)
		}
	}
	e := steptest.Made(c, steptest.RowOf(c, 1).Filled(7)...)
	if g := e.Memory.Cells()[steptest.RowOf(c, 0).State:]; !slices.Equal(g, []uint64{0, 0, 0, 0, 0, 7, 8, 9, 10, 11, 0, 0, 0, 0, 0, 0, 0, 0, 0, 0}) {
		t.Errorf("the cells of the tasks are %v", g)
	}
}

// A deque has the entries that it is said to have: they are popped from the last one on.
func TestHas(t *testing.T) {
	c := steptest.Sized(2, 2, 1, 3)
	q := steptest.DequeOf(c, 1, 1)
	for _, entries := range [][]uint64{nil, {7}, {7, 8}, {7, 8, 9}} {
		for begin := range uint64(5) {
			e := steptest.Made(c, steptest.Has(q, begin, entries...)...)
			if top, bottom := e.Memory.Peek(q.Top), e.Memory.Peek(q.Bottom); top != begin || bottom != begin+uint64(len(entries)) {
				t.Errorf("the entries %v from %d on: Top is %d, and Bottom is %d", entries, begin, top, bottom)
			}
			for _, v := range slices.Backward(entries) {
				x := owner.Pop(q)
				machine.Run(e, x, 99)
				steptest.CheckResult(t, "a pop", x, api.Got, int(v))
			}
			x := owner.Pop(q)
			machine.Run(e, x, 99)
			steptest.CheckResult(t, "a pop of an empty deque", x, api.Empty, 0)
		}
	}
	if g := steptest.Is(5, 6); !slices.Equal(g, []steptest.Put{{Cell: 5, V: 6}}) {
		t.Errorf("6 into cell 5: %v", g)
	}
}

// The steps of pushes are those of packages owner and levels.
func TestPushes(t *testing.T) {
	c := steptest.Sized(2, 3, 4, 2)
	q, bits := steptest.DequeOf(c, 1, 2), steptest.BitsOf(c, 1)
	some := slices.Concat(steptest.Has(q, 3, 1), steptest.Is(steptest.CellOf(q, 4), 6))
	steptest.Check(t,
		steptest.Way{What: "a push", Env: steptest.Made(c, some...), Make: func() machine.Machine { return owner.Push(q, 5) }, Steps: steptest.Pushes(q, 4, 3, 6, 5), Code: api.Fine},
		steptest.Way{What: "a full deque", Env: steptest.Made(c, steptest.Has(q, 3, 1, 2)...), Make: func() machine.Machine { return owner.Push(q, 5) }, Steps: steptest.Looks(q, 5, 3), Code: api.Full},
		steptest.Way{What: "a push at a level", Env: steptest.Made(c, steptest.Has(q, 3, 1)...), Make: func() machine.Machine { return levels.Push(1, 2, 5) }, Steps: steptest.Enters(c, 1, 2, 4, 3, 5, 0), Code: api.Fine},
		steptest.Way{What: "a push beside other bits", Env: steptest.Made(c, steptest.Is(bits, 9)...), Make: func() machine.Machine { return levels.Push(1, 2, 5) }, Steps: steptest.Enters(c, 1, 2, 0, 0, 5, 9), Code: api.Fine},
	)
}
