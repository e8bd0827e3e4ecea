package layout_test

import (
	"fmt"
	"math"
	"slices"
	"testing"

	"worksteal/api"
	"worksteal/config"
	"worksteal/layout"
)

// least returns the least configuration, which is that of the empty byte string.
func least() api.Config {
	return api.Config{Workers: 1, Levels: 1, Classes: 1, Tasks: 1, Deque: 1, Heap: 1, Batch: 1, Patience: 1, Progs: [][]api.Instr{nil}}
}

// full returns a configuration whose numbers of cells all differ where they can.
func full() api.Config {
	return api.Config{
		Workers: 4, Levels: 7, Classes: 2, Tasks: 11, Deque: 6, Heap: 3, Batch: 5, Age: 9, Patience: 8,
		Progs: [][]api.Instr{{{Op: api.Compute, A: 3}, {Op: api.Spawn, A: 1, B: 6}, {Op: api.Join}}, {}},
		Subs:  []api.Submission{{Prog: 0, Level: 1, Deadline: 9}, {Prog: 1, Level: 6, Deadline: 4}},
	}
}

// greatest returns a configuration with the greatest numbers.
func greatest() api.Config {
	c := least()
	c.Workers, c.Levels, c.Classes, c.Tasks, c.Deque, c.Heap = 16, 64, 8, 256, 64, 64
	c.Batch, c.Age, c.Patience = 64, 65536, 65536
	return c
}

// names are those of the numbers of a configuration that say how many cells there are.
func names() []string { return []string{"Workers", "Levels", "Classes", "Tasks", "Deque", "Heap"} }

// number returns a pointer to a number of a configuration, by its name.
func number(c *api.Config, name string) *int {
	return map[string]*int{
		"Workers": &c.Workers, "Levels": &c.Levels, "Classes": &c.Classes, "Tasks": &c.Tasks, "Deque": &c.Deque,
		"Heap": &c.Heap, "Batch": &c.Batch, "Age": &c.Age, "Patience": &c.Patience,
	}[name]
}

// configs returns configurations of many kinds, the least and the greatest one among them.
func configs() []api.Config {
	l := []api.Config{least(), full(), greatest()}
	for _, name := range names() {
		c := full()
		*number(&c, name)++
		l = append(l, c)

		// One number is the greatest and all others are as small as they can be, and the other way round.
		small, great := least(), greatest()
		*number(&small, name), *number(&great, name) = *number(&great, name), *number(&small, name)
		small.Levels = max(small.Levels, small.Classes)
		great.Classes, great.Batch = min(great.Classes, great.Levels), min(great.Batch, great.Deque)
		l = append(l, small, great)
	}
	for i := range 256 {
		b := make([]byte, 6)
		for j := range b {
			b[j] = byte(i * (31 + 22*j) >> j)
		}
		l = append(l, config.Decode(b))
	}
	return l
}

// made returns the layout of a valid configuration.
func made(t *testing.T, c api.Config) layout.Layout {
	t.Helper()
	l, e := layout.New(c)
	if e != api.OK {
		t.Fatalf("New of %v: the error is %d, want OK", c, e)
	}
	return l
}

// taskCells are the numbers of the cells of a task.
type taskCells struct{ state, level, join, waits, since int }

// plain is the list of all cells, numbered one after another.
type plain struct {
	fixed                            [4]int
	slots, sleepers, epochs, bitmaps []int
	queues                           [][]api.Queue
	tasks                            []taskCells
	cells                            int
}

// numbered numbers the cells of a configuration in the order in which the chapter names them.
func numbered(c api.Config) plain {
	var p plain
	one := func() int {
		p.cells++
		return p.cells - 1
	}
	several := func(n int) []int {
		l := make([]int, n)
		for i := range l {
			l[i] = one()
		}
		return l
	}
	copy(p.fixed[:], several(4))
	p.slots = several(c.Heap)
	p.sleepers = several(c.Classes)
	p.epochs = several(c.Workers)
	p.bitmaps = several(c.Workers)
	for range c.Workers {
		var l []api.Queue
		for range c.Levels {
			q := api.Queue{Top: one(), Bottom: one(), Cap: c.Deque}
			q.Ring = several(c.Deque)[0]
			l = append(l, q)
		}
		p.queues = append(p.queues, l)
	}
	for range c.Tasks {
		p.tasks = append(p.tasks, taskCells{one(), one(), one(), one(), one()})
	}
	return p
}

// beyond returns numbers that are no element of a list of n elements: those next to it, and those at the limits of int or whose products with a few small numbers wrap around to small ones.
func beyond(n int) []int {
	l := []int{
		-1, -2, -3, -5, -n, -n - 1, n, n + 1, n + 2, 2 * n, 2*n + 1, 1000, -1000,
		math.MinInt, math.MinInt + 1, math.MinInt + n, math.MaxInt, math.MaxInt - 1, math.MaxInt - n,
		math.MinInt32, math.MaxInt32, 1 << 32, 1<<32 + 1, -1 << 32, 1 - 1<<32,
	}
	for _, x := range []int{3, 5, 6, 7, 8, 56, 66} {
		most := math.MaxInt / x * 2
		l = append(l, most, most+1, most+2, -most, -most-1, math.MinInt/x, math.MaxInt/x, math.MaxInt/x+1)
	}
	for k := 8; k < 64; k++ {
		l = append(l, 1<<k, 1<<k+n-1, -1<<k, -1<<k+n-1)
	}
	return slices.DeleteFunc(l, func(i int) bool { return 0 <= i && i < n })
}

// checkCells reports an error if a method does not return the wanted cells of the elements that exist, and -1 for all others.
func checkCells(t *testing.T, what string, method func(i int) int, want []int) {
	t.Helper()
	for i, w := range want {
		if g := method(i); g != w {
			t.Errorf("%s(%d) = %d, want %d", what, i, g, w)
		}
	}
	for _, i := range beyond(len(want)) {
		if g := method(i); g != -1 {
			t.Errorf("%s(%d) = %d, want -1", what, i, g)
		}
	}
}

// checkQueues reports an error if Queue does not return the wanted cells of the deques that exist, and no cells for all others.
func checkQueues(t *testing.T, what string, l layout.Layout, want [][]api.Queue) {
	t.Helper()
	check := func(worker, level int, want api.Queue) {
		t.Helper()
		if g := l.Queue(worker, level); g != want {
			t.Errorf("%s: Queue(%d, %d) = %v, want %v", what, worker, level, g, want)
		}
	}
	none := api.Queue{Top: -1, Bottom: -1, Ring: -1, Cap: 0}
	workers, levels := len(want), len(want[0])
	for worker := range workers {
		for level := range levels {
			check(worker, level, want[worker][level])
		}
		for _, level := range beyond(levels) {
			check(worker, level, none)
		}
	}
	for _, worker := range beyond(workers) {
		for level := range levels {
			check(worker, level, none)
		}
		for _, level := range []int{-1, levels, -levels, worker, -worker, math.MinInt, math.MaxInt} {
			check(worker, level, none)
		}
	}
}

// check reports an error if a layout is not that of the cells of p.
func check(t *testing.T, what string, l layout.Layout, p plain) {
	t.Helper()
	if g := l.Cells(); g != p.cells {
		t.Errorf("%s: Cells() = %d, want %d", what, g, p.cells)
	}
	if g := [4]int{l.Next(), l.Lock(), l.Size(), l.Arrival()}; g != p.fixed {
		t.Errorf("%s: Next, Lock, Size and Arrival = %v, want %v", what, g, p.fixed)
	}
	checkCells(t, what+": Slot", l.Slot, p.slots)
	checkCells(t, what+": Sleepers", l.Sleepers, p.sleepers)
	checkCells(t, what+": Epoch", l.Epoch, p.epochs)
	checkCells(t, what+": Bitmap", l.Bitmap, p.bitmaps)
	checkQueues(t, what, l, p.queues)
	for _, x := range []struct {
		name   string
		method func(task int) int
		cell   func(x taskCells) int
	}{
		{"State", l.State, func(x taskCells) int { return x.state }},
		{"Level", l.Level, func(x taskCells) int { return x.level }},
		{"Join", l.Join, func(x taskCells) int { return x.join }},
		{"Waits", l.Waits, func(x taskCells) int { return x.waits }},
		{"Since", l.Since, func(x taskCells) int { return x.since }},
	} {
		var want []int
		for _, y := range p.tasks {
			want = append(want, x.cell(y))
		}
		checkCells(t, what+": "+x.name, x.method, want)
	}
}

// P6.1: the error of New is that of config.Check, with the zero value beside it.
func TestNewErrors(t *testing.T) {
	for _, x := range []struct {
		what string
		make func(c *api.Config)
		want api.Errno
	}{
		{"nothing", func(c *api.Config) { *c = api.Config{} }, api.ErrRange},
		{"no workers", func(c *api.Config) { c.Workers = 0 }, api.ErrRange},
		{"negative workers", func(c *api.Config) { c.Workers = -1 }, api.ErrRange},
		{"17 workers", func(c *api.Config) { c.Workers = 17 }, api.ErrRange},
		{"no levels", func(c *api.Config) { c.Levels = 0 }, api.ErrRange},
		{"65 levels", func(c *api.Config) { c.Levels = 65 }, api.ErrRange},
		{"no classes", func(c *api.Config) { c.Classes = 0 }, api.ErrRange},
		{"more classes than levels", func(c *api.Config) { c.Classes = 8 }, api.ErrRange},
		{"9 classes", func(c *api.Config) { c.Levels, c.Classes = 64, 9 }, api.ErrRange},
		{"no tasks", func(c *api.Config) { c.Tasks = 0 }, api.ErrRange},
		{"257 tasks", func(c *api.Config) { c.Tasks = 257 }, api.ErrRange},
		{"no deque", func(c *api.Config) { c.Deque = 0 }, api.ErrRange},
		{"deques of 65", func(c *api.Config) { c.Deque = 65 }, api.ErrRange},
		{"no slots", func(c *api.Config) { c.Heap = 0 }, api.ErrRange},
		{"65 slots", func(c *api.Config) { c.Heap = 65 }, api.ErrRange},
		{"no batch", func(c *api.Config) { c.Batch = 0 }, api.ErrRange},
		{"a batch greater than a deque", func(c *api.Config) { c.Batch = 7 }, api.ErrRange},
		{"a negative age", func(c *api.Config) { c.Age = -1 }, api.ErrRange},
		{"a great age", func(c *api.Config) { c.Age = 65537 }, api.ErrRange},
		{"no patience", func(c *api.Config) { c.Patience = 0 }, api.ErrRange},
		{"great patience", func(c *api.Config) { c.Patience = 65537 }, api.ErrRange},
		{"the greatest int", func(c *api.Config) { c.Workers, c.Levels, c.Deque = math.MaxInt, math.MaxInt, math.MaxInt }, api.ErrRange},
		{"the least int", func(c *api.Config) { c.Tasks, c.Heap, c.Classes = math.MinInt, math.MinInt, math.MinInt }, api.ErrRange},
		{"no program", func(c *api.Config) { c.Progs = nil }, api.ErrLimit},
		{"33 programs", func(c *api.Config) { c.Progs = make([][]api.Instr, 33) }, api.ErrLimit},
		{"33 instructions", func(c *api.Config) { c.Progs[1] = make([]api.Instr, 33) }, api.ErrLimit},
		{"an instruction of an unknown kind", func(c *api.Config) { c.Progs[0][2].Op = 3 }, api.ErrRange},
		{"a Compute of 0 steps", func(c *api.Config) { c.Progs[0][0].A = 0 }, api.ErrRange},
		{"a Spawn of an unknown program", func(c *api.Config) { c.Progs[0][1].A = 2 }, api.ErrRange},
		{"a Join of a great number", func(c *api.Config) { c.Progs[0][2].A = 32 }, api.ErrRange},
		{"65 submissions", func(c *api.Config) { c.Subs = make([]api.Submission, 65) }, api.ErrLimit},
		{"a submission of an unknown program", func(c *api.Config) { c.Subs[1].Prog = 2 }, api.ErrUnknown},
		{"a submission at a level that does not exist", func(c *api.Config) { c.Subs[1].Level = 7 }, api.ErrRange},
		{"a submission with a great deadline", func(c *api.Config) { c.Subs[1].Deadline = 1 << 24 }, api.ErrRange},
		{"errors of a number and of the programs", func(c *api.Config) { c.Patience, c.Progs = 0, nil }, api.ErrRange},
		{"errors of the programs and of a submission", func(c *api.Config) { c.Progs, c.Subs[0].Prog = nil, -1 }, api.ErrLimit},
		{"errors of both submissions", func(c *api.Config) { c.Subs[0].Prog, c.Subs[1].Level = -1, -1 }, api.ErrUnknown},
	} {
		c := full()
		x.make(&c)
		l, e := layout.New(c)
		if e != x.want || e != config.Check(c) {
			t.Errorf("New with %s: the error is %d, want %d; config.Check says %d", x.what, e, x.want, config.Check(c))
		}
		if l != (layout.Layout{}) {
			t.Errorf("New with %s: the layout is %v, want the zero value", x.what, l)
		}
	}
}

// P6.1: Cells of the least configuration, of one in the middle, and of the greatest one.
func TestCells(t *testing.T) {
	for _, x := range []struct {
		what string
		c    api.Config
		want int
	}{
		{"the least configuration", least(), 16},
		// 4, then 3 slots, 2 classes, 4 epochs, 4 bitmaps, 28 deques of 8 cells, 11 tasks of 5 cells
		{"a configuration", full(), 4 + 3 + 2 + 4 + 4 + 28*8 + 11*5},
		// 4, then 64 slots, 8 classes, 16 epochs, 16 bitmaps, 1024 deques of 66 cells, 256 tasks of 5 cells
		{"the greatest configuration", greatest(), 68972},
	} {
		if g := made(t, x.c).Cells(); g != x.want {
			t.Errorf("Cells of %s = %d, want %d", x.what, g, x.want)
		}
	}
	if g := made(t, greatest()).Cells(); g > api.MaxCells {
		t.Errorf("Cells of the greatest configuration = %d, more than a memory has", g)
	}
}

// P6.1: how many cells there are more if a number is greater by one, and that no other number counts.
func TestCellsOfNumbers(t *testing.T) {
	small := least()
	// Classes is at most Levels, and Batch at most Deque, so that these leave room for one more.
	small.Levels, small.Deque = 2, 2
	great := greatest()
	great.Workers, great.Levels, great.Classes, great.Tasks, great.Deque, great.Heap = 15, 63, 7, 255, 63, 63
	great.Batch, great.Age, great.Patience = 62, 65535, 65535
	for _, c := range []api.Config{small, full(), great} {
		cells := made(t, c).Cells()
		for name, more := range map[string]int{
			"Workers":  2 + c.Levels*(2+c.Deque),
			"Levels":   c.Workers * (2 + c.Deque),
			"Classes":  1,
			"Tasks":    5,
			"Deque":    c.Workers * c.Levels,
			"Heap":     1,
			"Batch":    0,
			"Age":      0,
			"Patience": 0,
		} {
			d := config.Clone(c)
			*number(&d, name)++
			if g := made(t, d).Cells(); g != cells+more {
				t.Errorf("one more for %s of %v: Cells() = %d, want %d", name, c, g, cells+more)
			}
		}
		d := config.Clone(c)
		d.Progs = slices.Repeat([][]api.Instr{{{Op: api.Compute, A: 1}}, {}}, 10)
		d.Subs = slices.Repeat([]api.Submission{{Deadline: 7}}, 9)
		if g := made(t, d).Cells(); g != cells {
			t.Errorf("other programs and submissions of %v: Cells() = %d, want %d", c, g, cells)
		}
	}
}

// P6.2: the cells of one configuration, written out.
func TestWrittenOut(t *testing.T) {
	l := made(t, full())
	for _, x := range []struct {
		what      string
		got, want int
	}{
		{"Next()", l.Next(), 0}, {"Lock()", l.Lock(), 1}, {"Size()", l.Size(), 2}, {"Arrival()", l.Arrival(), 3},
		{"Slot(0)", l.Slot(0), 4}, {"Slot(2)", l.Slot(2), 6}, {"Slot(3)", l.Slot(3), -1}, {"Slot(-1)", l.Slot(-1), -1},
		{"Sleepers(0)", l.Sleepers(0), 7}, {"Sleepers(1)", l.Sleepers(1), 8}, {"Sleepers(2)", l.Sleepers(2), -1}, {"Sleepers(-1)", l.Sleepers(-1), -1},
		{"Epoch(0)", l.Epoch(0), 9}, {"Epoch(1)", l.Epoch(1), 10}, {"Epoch(3)", l.Epoch(3), 12}, {"Epoch(4)", l.Epoch(4), -1}, {"Epoch(-1)", l.Epoch(-1), -1},
		{"Bitmap(0)", l.Bitmap(0), 13}, {"Bitmap(1)", l.Bitmap(1), 14}, {"Bitmap(3)", l.Bitmap(3), 16}, {"Bitmap(4)", l.Bitmap(4), -1}, {"Bitmap(-1)", l.Bitmap(-1), -1},
		{"State(0)", l.State(0), 241}, {"Level(0)", l.Level(0), 242}, {"Join(0)", l.Join(0), 243}, {"Waits(0)", l.Waits(0), 244}, {"Since(0)", l.Since(0), 245},
		{"State(1)", l.State(1), 246},
		{"State(10)", l.State(10), 291}, {"Level(10)", l.Level(10), 292}, {"Join(10)", l.Join(10), 293}, {"Waits(10)", l.Waits(10), 294}, {"Since(10)", l.Since(10), 295},
		{"State(11)", l.State(11), -1}, {"Level(11)", l.Level(11), -1}, {"Join(11)", l.Join(11), -1}, {"Waits(11)", l.Waits(11), -1}, {"Since(11)", l.Since(11), -1},
		{"State(-1)", l.State(-1), -1}, {"Level(-1)", l.Level(-1), -1}, {"Join(-1)", l.Join(-1), -1}, {"Waits(-1)", l.Waits(-1), -1}, {"Since(-1)", l.Since(-1), -1},
		{"Cells()", l.Cells(), 296},
	} {
		if x.got != x.want {
			t.Errorf("%s = %d, want %d", x.what, x.got, x.want)
		}
	}
}

// P6.2: the deques of one configuration, written out.
func TestQueuesWrittenOut(t *testing.T) {
	l := made(t, full())
	for _, x := range []struct{ worker, level, top, bottom, ring, capacity int }{
		{0, 0, 17, 18, 19, 6},
		{0, 1, 25, 26, 27, 6},
		{0, 6, 65, 66, 67, 6},
		{1, 0, 73, 74, 75, 6},
		{1, 6, 121, 122, 123, 6},
		{3, 0, 185, 186, 187, 6},
		{3, 6, 233, 234, 235, 6},
		{0, 7, -1, -1, -1, 0},
		{3, 7, -1, -1, -1, 0},
		{4, 0, -1, -1, -1, 0},
		{4, 7, -1, -1, -1, 0},
		{-1, 0, -1, -1, -1, 0},
		{0, -1, -1, -1, -1, 0},
		{-1, 7, -1, -1, -1, 0},
		{1, -7, -1, -1, -1, 0},
		{4, -7, -1, -1, -1, 0},
		{-1, -1, -1, -1, -1, 0},
		{math.MinInt, 0, -1, -1, -1, 0},
		{math.MaxInt, 0, -1, -1, -1, 0},
		{0, math.MinInt, -1, -1, -1, 0},
		{0, math.MaxInt, -1, -1, -1, 0},
		{math.MinInt, math.MinInt, -1, -1, -1, 0},
		{math.MinInt, math.MaxInt, -1, -1, -1, 0},
		{math.MaxInt, math.MinInt, -1, -1, -1, 0},
		{math.MaxInt, math.MaxInt, -1, -1, -1, 0},
	} {
		want := api.Queue{Top: x.top, Bottom: x.bottom, Ring: x.ring, Cap: x.capacity}
		if g := l.Queue(x.worker, x.level); g != want {
			t.Errorf("Queue(%d, %d) = %v, want %v", x.worker, x.level, g, want)
		}
	}
}

// P6.1 and P6.2: all cells of many configurations, and -1 for all numbers for which there is no cell.
func TestAllCells(t *testing.T) {
	for _, c := range configs() {
		check(t, fmt.Sprintf("%v", c), made(t, c), numbered(c))
		if t.Failed() {
			return
		}
	}
}

// The consequences: the cells are the numbers from 0 to Cells() - 1, each of them once.
func TestEachNumberOnce(t *testing.T) {
	for _, c := range configs() {
		l := made(t, c)
		times := make([]int, l.Cells())
		see := func(cells ...int) {
			for _, x := range cells {
				if x < 0 || x >= len(times) {
					t.Fatalf("%v: the cell %d of %d cells", c, x, len(times))
				}
				times[x]++
			}
		}
		see(l.Next(), l.Lock(), l.Size(), l.Arrival())
		for i := range c.Heap {
			see(l.Slot(i))
		}
		for class := range c.Classes {
			see(l.Sleepers(class))
		}
		for worker := range c.Workers {
			see(l.Epoch(worker), l.Bitmap(worker))
			for level := range c.Levels {
				q := l.Queue(worker, level)
				see(q.Top, q.Bottom)
				for i := range q.Cap {
					see(q.Ring + i)
				}
			}
		}
		for task := range c.Tasks {
			see(l.State(task), l.Level(task), l.Join(task), l.Waits(task), l.Since(task))
		}
		for x, n := range times {
			if n != 1 {
				t.Fatalf("%v: %d times the cell %d, want once", c, n, x)
			}
		}
	}
}

// R2: equal configurations have equal layouts, and equal calls give equal answers, in any order and for a copy of the layout as well.
func TestEqualCalls(t *testing.T) {
	for _, c := range []api.Config{least(), full(), greatest()} {
		l, p := made(t, c), numbered(c)
		if made(t, config.Clone(c)) != l {
			t.Errorf("%v: two layouts", c)
		}
		other := made(t, config.Decode([]byte{1, 1, 1, 1, 1, 1}))
		x := l
		check(t, "the first calls", l, p)
		check(t, "the same calls again", l, p)
		check(t, "the calls of a copy", x, p)
		check(t, "the calls of another layout", other, numbered(config.Decode([]byte{1, 1, 1, 1, 1, 1})))
		if x != l {
			t.Errorf("%v: calls changed the layout", c)
		}
	}
}

// R3: New does not change the configuration, and what becomes of the configuration afterwards does not change the layout.
func TestConfigStaysApart(t *testing.T) {
	c := full()
	l := made(t, c)
	if !config.Equal(c, full()) {
		t.Errorf("New changed the configuration to %v", c)
	}
	c.Workers, c.Levels, c.Classes, c.Tasks, c.Deque, c.Heap = 1, 1, 1, 1, 1, 1
	c.Progs[0][0], c.Progs[1] = api.Instr{Op: 9}, nil
	c.Subs[0] = api.Submission{Prog: -1}
	check(t, "the configuration changed", l, numbered(full()))

	bad := full()
	bad.Subs[1].Prog = 2
	same := config.Clone(bad)
	layout.New(bad)
	if !config.Equal(bad, same) {
		t.Errorf("New with an error changed the configuration to %v", bad)
	}
}

// R1: the calls of the zero value, which New returns beside an error, end as well.
func TestZeroValueEnds(t *testing.T) {
	l, _ := layout.New(api.Config{})
	l.Cells()
	for _, i := range append(beyond(0), 0) {
		for _, method := range []func(i int) int{
			l.Slot, l.Sleepers, l.Epoch, l.Bitmap, l.State, l.Level, l.Join, l.Waits, l.Since,
		} {
			method(i)
		}
		l.Queue(i, 0)
		l.Queue(0, i)
		l.Queue(i, i)
	}
}

// The chapter's example.
func TestExample(t *testing.T) {
	l := made(t, config.Decode(nil))
	if l.Cells() != 16 || l.Slot(0) != 4 || l.Queue(0, 0) != (api.Queue{Top: 8, Bottom: 9, Ring: 10, Cap: 1}) || l.State(0) != 11 {
		t.Errorf("example 1: Cells() = %d, Slot(0) = %d, Queue(0, 0) = %v, State(0) = %d, want 16, 4, {8 9 10 1} and 11", l.Cells(), l.Slot(0), l.Queue(0, 0), l.State(0))
	}
}
