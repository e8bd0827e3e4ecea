package parts_test

import (
	"math"
	"testing"

	"worksteal/api"
	"worksteal/machine"
	"worksteal/parts"
)

// checkLines reports an error if lines do not have a next line and a result.
func checkLines(t *testing.T, what string, l parts.Lines, line, code, value int) {
	t.Helper()
	if c, v := l.Result(); l.Line() != line || c != code || v != value {
		t.Errorf("%s: line %d and the result %d, %d, want %d and %d, %d", what, l.Line(), c, v, line, code, value)
	}
}

// Lines go from the first one to others, and have a result at the end alone.
func TestLines(t *testing.T) {
	l := parts.Begin()
	checkLines(t, "at first", l, 1, 0, 0)
	if l.Next(7) {
		t.Error("Next returns true")
	}
	checkLines(t, "behind Next", l, 7, 0, 0)
	c := l
	if !l.End(api.Got, -5) {
		t.Error("End returns false")
	}
	checkLines(t, "behind End", l, 0, api.Got, -5)
	checkLines(t, "the copy", c, 7, 0, 0)
	checkLines(t, "the zero value", parts.Lines{}, 0, 0, 0)
}

// The lines of a machine on a deque, and what it loads of the cells of the deque.
func TestDeque(t *testing.T) {
	e := machine.Bare(4)
	e.Memory.Store(2, 5)
	e.Memory.Store(3, 8)
	d := parts.On(api.Queue{Top: 2, Bottom: 3, Ring: 9, Cap: 4})
	checkLines(t, "at first", d.Lines, 1, 0, 0)
	count := e.Memory.Count()
	d.LoadBottom(e)
	if g := (api.Access{Kind: api.AccessLoad, Cell: 3, Old: 8, New: 8}); e.Memory.Last() != g || d.B != 8 || d.T != 0 {
		t.Errorf("LoadBottom: %v, the contents %d and %d", e.Memory.Last(), d.B, d.T)
	}
	d.LoadTop(e)
	if g := (api.Access{Kind: api.AccessLoad, Cell: 2, Old: 5, New: 5}); e.Memory.Last() != g || d.B != 8 || d.T != 5 {
		t.Errorf("LoadTop: %v, the contents %d and %d", e.Memory.Last(), d.B, d.T)
	}
	if g := e.Memory.Count() - count; g != 2 {
		t.Errorf("two loads made %d accesses", g)
	}
	checkLines(t, "behind the loads", d.Lines, 1, 0, 0)
}

// The size is a difference modulo 2^64, from -2^63 to 2^63 - 1.
func TestSize(t *testing.T) {
	const half, top = 1 << 63, math.MaxUint64
	for _, x := range []struct {
		b, t uint64
		want int
	}{
		{0, 0, 0}, {8, 5, 3}, {5, 8, -3}, {half, half - 1, 1}, {half - 1, half, -1}, {0, top, 1}, {top, 0, -1}, {2, top - 1, 4},
		{half - 1, 0, math.MaxInt}, {half, 0, math.MinInt}, {0, half, math.MinInt}, {0, half + 1, math.MaxInt},
	} {
		d := parts.Deque{T: x.t}
		if g := d.Size(x.b); g != x.want {
			t.Errorf("the size for %d and %d is %d, want %d", x.b, x.t, g, x.want)
		}
	}
}

// The cell of an index is in the ring; it is -1 if the ring has no place, and negative beyond the greatest int.
func TestCellOf(t *testing.T) {
	const half, top = 1 << 63, math.MaxUint64
	for _, x := range []struct {
		ring, capacity int
		index          uint64
		want           int
	}{
		{2, 3, 0, 2}, {2, 3, 2, 4}, {2, 3, 3, 2}, {2, 3, half, 4}, {2, 4, top, 5}, {-2, 9, 1, -1}, {-2, 9, 4, 2}, {7, 1, top, 7},
		{2, 0, 5, -1}, {2, -1, 5, -1}, {0, math.MinInt, 5, -1}, {2, math.MaxInt, half - 3, math.MaxInt}, {2, math.MaxInt, half - 2, math.MinInt},
	} {
		d := parts.On(api.Queue{Ring: x.ring, Cap: x.capacity})
		if g := d.CellOf(x.index); g != x.want {
			t.Errorf("the cell of index %d with the ring %d and %d places is %d, want %d", x.index, x.ring, x.capacity, g, x.want)
		}
	}
}

// A counter adds 1 to cell 0 with each step, and is done with Got and what the cell contains when its steps are over.
type counter struct {
	parts.Lines
	steps int
}

func (c *counter) Step(e *machine.Env) bool {
	if c.Line() == 0 {
		return true
	}
	v := e.Memory.Add(0, 1) + 1
	if c.Line() == c.steps {
		return c.End(api.Got, int(v))
	}
	return c.Next(c.Line() + 1)
}

func (c *counter) Copy() machine.Machine {
	d := *c
	return &d
}

// An inner is how a line runs a counter, and how often it has begun with it.
type inner struct{ steps, begun int }

func (i *inner) begin() machine.Machine {
	i.begun++
	return &counter{parts.Begin(), i.steps}
}

// checkRun lets an outer machine perform a step of an inner one, and reports an error if that does not return what it must.
func checkRun(t *testing.T, what string, o *parts.Outer, e *machine.Env, i *inner, code, value int, done bool) {
	t.Helper()
	if c, v, d := o.Run(e, i.begin); c != code || v != value || d != done {
		t.Errorf("%s: %d, %d, %t, want %d, %d, %t", what, c, v, d, code, value, done)
	}
}

// A line of an outer machine begins with an inner machine once, and performs one of its steps with each of its own. What the lines of the outer machine are is its own affair.
func TestOuter(t *testing.T) {
	e, o := machine.Bare(1), parts.Around()
	checkLines(t, "at first", o.Lines, 1, 0, 0)
	i := &inner{steps: 3}
	checkRun(t, "step 1", &o, e, i, 0, 0, false)
	checkRun(t, "step 2", &o, e, i, 0, 0, false)
	checkRun(t, "step 3", &o, e, i, api.Got, 3, true)
	if g := e.Memory.Peek(0); g != 3 || i.begun != 1 {
		t.Errorf("three steps of the line: %d steps of %d inner machines", g, i.begun)
	}
	// The next line runs another one, and so does a line that is performed once more.
	j := &inner{steps: 1}
	checkRun(t, "a line of one step", &o, e, j, api.Got, 4, true)
	checkRun(t, "a line of one step, once more", &o, e, j, api.Got, 5, true)
	if i.begun != 1 || j.begun != 2 {
		t.Errorf("the lines have begun with %d and %d inner machines, want 1 and 2", i.begun, j.begun)
	}
	checkLines(t, "behind the lines", o.Lines, 1, 0, 0)
}

// Behind Detach an outer machine and the one that it was copied from have inner machines of their own, wherever these are.
func TestDetach(t *testing.T) {
	for steps := range 3 {
		e, o, i := machine.Bare(1), parts.Around(), &inner{steps: 3}
		for range steps {
			checkRun(t, "before the copy", &o, e, i, 0, 0, false)
		}
		f, c := e.Copy(), o
		c.Detach()
		for k := steps + 1; k < 3; k++ {
			checkRun(t, "the original", &o, e, i, 0, 0, false)
		}
		checkRun(t, "the end of the original", &o, e, i, api.Got, 3, true)
		e.Memory.Store(0, 9)
		for k := steps + 1; k < 3; k++ {
			checkRun(t, "the copy", &c, f, i, 0, 0, false)
		}
		checkRun(t, "the end of the copy", &c, f, i, api.Got, 3, true)
		if want := 1 + (3-steps)/3; i.begun != want {
			t.Errorf("a copy behind %d steps: %d inner machines were begun with, want %d", steps, i.begun, want)
		}
	}
}

// A line begins with its first step, and again with the first one behind its last one; a copy is where the original was.
func TestBegins(t *testing.T) {
	e, o, i := machine.Bare(1), parts.Around(), &inner{steps: 3}
	for step := range 9 {
		c := o
		c.Detach()
		if want := step%3 == 0; o.Begins() != want || c.Begins() != want {
			t.Errorf("behind %d steps: the line begins: %t, and that of a copy: %t, want %t", step, o.Begins(), c.Begins(), want)
		}
		o.Run(e, i.begin)
		if want := step%3 == 0; c.Begins() != want {
			t.Errorf("behind %d steps and one more of the original: the line of a copy begins: %t, want %t", step, c.Begins(), want)
		}
	}
}

// The inner machine is not there before its line begins, and not kept behind it.
func TestDetachBetweenLines(t *testing.T) {
	e, o := machine.Bare(1), parts.Around()
	o.Detach()
	checkRun(t, "behind a Detach at first", &o, e, &inner{steps: 1}, api.Got, 1, true)
	o.Detach()
	checkRun(t, "behind a Detach between two lines", &o, e, &inner{steps: 1}, api.Got, 2, true)
}

// The tasks are the numbers from 0 on, as many as the configuration says.
func TestIsTask(t *testing.T) {
	for _, tasks := range []int{0, 1, 2, 256} {
		e := machine.Bare(0)
		e.Config.Tasks = tasks
		for n := range tasks {
			if !parts.IsTask(e, n) {
				t.Errorf("of %d tasks %d is none", tasks, n)
			}
		}
		for _, n := range []int{-1, -2, -tasks - 1, tasks, tasks + 1, 257, 1 << 32, 1<<62 + 1, -1 << 32, math.MaxInt, math.MaxInt - 1, math.MinInt, math.MinInt + 1} {
			if parts.IsTask(e, n) {
				t.Errorf("of %d tasks %d is one", tasks, n)
			}
		}
	}
}
