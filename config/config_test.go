package config_test

import (
	"bytes"
	"fmt"
	"math"
	"slices"
	"testing"

	"worksteal/api"
	"worksteal/config"
)

func compute(a int) api.Instr { return api.Instr{Op: api.Compute, A: a} }

func spawn(prog, level int) api.Instr { return api.Instr{Op: api.Spawn, A: prog, B: level} }

func join(kid int) api.Instr { return api.Instr{Op: api.Join, A: kid} }

func sub(prog, level, deadline int) api.Submission {
	return api.Submission{Prog: prog, Level: level, Deadline: deadline}
}

// full returns a valid configuration, with everything that Decode makes.
func full() api.Config {
	return api.Config{
		Workers: 2, Levels: 3, Classes: 2, Tasks: 5, Deque: 4, Heap: 3, Batch: 2, Age: 3, Patience: 4,
		Progs: [][]api.Instr{{compute(3), spawn(1, 2), join(0)}, {}, {join(3), compute(1)}},
		Subs:  []api.Submission{sub(0, 1, 9), sub(1, 2, 4)},
	}
}

// fullBytes returns the bytes of full, as P5.3 reads them.
func fullBytes() []byte {
	return []byte{
		1, 2, 1, 4, 3, 2, 1, 3, 3, // the nine numbers
		2,                      // three programs
		3, 0, 2, 1, 1, 2, 2, 0, // Compute 3, Spawn of 1 at level 2, Join 0
		0,             // no instruction
		2, 2, 3, 0, 0, // Join 3, Compute 1
		2, 0, 1, 9, 1, 2, 4, // two submissions
	}
}

// wide returns a valid configuration in which each of the nine numbers can be changed to both ends of its range, while all others stay valid.
func wide() api.Config {
	return api.Config{
		Workers: 3, Levels: 10, Classes: 1, Tasks: 7, Deque: 9, Heap: 5, Batch: 1, Age: 4, Patience: 6,
		Progs: [][]api.Instr{{compute(1), spawn(0, 0), join(0)}},
		Subs:  []api.Submission{sub(0, 0, 0)},
	}
}

// names are those of the nine numbers, in their order.
func names() []string {
	return []string{"Workers", "Levels", "Classes", "Tasks", "Deque", "Heap", "Batch", "Age", "Patience"}
}

// number returns a pointer to a number of a configuration, by its name.
func number(c *api.Config, name string) *int {
	return map[string]*int{
		"Workers": &c.Workers, "Levels": &c.Levels, "Classes": &c.Classes, "Tasks": &c.Tasks, "Deque": &c.Deque,
		"Heap": &c.Heap, "Batch": &c.Batch, "Age": &c.Age, "Patience": &c.Patience,
	}[name]
}

// text returns all that a configuration contains; nil and empty lists have the same text, so that equal texts are what P5.5 calls equal.
func text(c api.Config) string { return fmt.Sprintf("%v", c) }

// mixed returns a function whose calls return numbers from 0 to n - 1 that look random; the same seed gives the same ones.
func mixed(seed uint64) func(n int) int {
	return func(n int) int {
		seed = seed*6364136223846793005 + 1442695040888963407
		return int(seed >> 33 % uint64(n))
	}
}

// mixedBytes returns n bytes that look random; most of them are small, so that numbers differ from 0 in many ways.
func mixedBytes(next func(n int) int, n int) []byte {
	b := make([]byte, n)
	for i := range b {
		b[i] = byte(next([]int{2, 4, 16, 256}[next(4)]))
	}
	return b
}

// plainDecode returns what P5.3 says for Decode, with the number that each byte is taken modulo, in the order in which the bytes are read.
func plainDecode(b []byte) (c api.Config, moduli []int) {
	n := func(k int) int {
		at := len(moduli)
		moduli = append(moduli, k)
		if at >= len(b) {
			return 0
		}
		return int(b[at]) - int(b[at])/k*k
	}
	c.Workers = n(4) + 1
	c.Levels = n(4) + 1
	if c.Levels < 3 {
		c.Classes = n(c.Levels) + 1
	} else {
		c.Classes = n(3) + 1
	}
	c.Tasks = n(12) + 1
	c.Deque = n(4) + 1
	c.Heap = n(4) + 1
	c.Batch = n(c.Deque) + 1
	c.Age = n(6)
	c.Patience = n(8) + 1
	c.Progs = make([][]api.Instr, n(4)+1)
	for i := range c.Progs {
		c.Progs[i] = make([]api.Instr, n(6))
		for j := range c.Progs[i] {
			x := &c.Progs[i][j]
			x.Op = n(3)
			if x.Op == api.Compute {
				x.A = n(4) + 1
			} else if x.Op == api.Spawn {
				x.A = n(len(c.Progs))
				x.B = n(c.Levels)
			} else {
				x.A = n(4)
			}
		}
	}
	c.Subs = make([]api.Submission, n(6))
	for i := range c.Subs {
		c.Subs[i].Prog = n(len(c.Progs))
		c.Subs[i].Level = n(c.Levels)
		c.Subs[i].Deadline = n(16)
	}
	return c, moduli
}

// checkCode reports an error if Check of c is not want.
func checkCode(t *testing.T, what string, c api.Config, want api.Errno) {
	t.Helper()
	if g := config.Check(c); g != want {
		t.Errorf("Check with %s = %d, want %d", what, g, want)
	}
}

// P5.1: configurations that are valid.
func TestCheckValid(t *testing.T) {
	checkCode(t, "all that Decode makes", full(), api.OK)
	checkCode(t, "wide numbers", wide(), api.OK)
	most := api.Config{Workers: 16, Levels: 64, Classes: 8, Tasks: 256, Deque: 64, Heap: 64, Batch: 64, Age: 65536, Patience: 65536}
	for range 32 {
		p := slices.Repeat([]api.Instr{compute(64), spawn(31, 63), join(31), spawn(0, 0)}, 8)
		most.Progs = append(most.Progs, p)
	}
	most.Subs = slices.Repeat([]api.Submission{sub(31, 63, 16777215), sub(0, 0, 0)}, 32)
	checkCode(t, "the greatest numbers", most, api.OK)
	least := api.Config{Workers: 1, Levels: 1, Classes: 1, Tasks: 1, Deque: 1, Heap: 1, Batch: 1, Age: 0, Patience: 1, Progs: [][]api.Instr{nil}}
	checkCode(t, "the least numbers", least, api.OK)
	checkCode(t, "zeros", api.Config{}, api.ErrRange)
}

// P5.1: each of the nine numbers at both ends of its range, beyond them, and at the limits of int.
func TestCheckNumbers(t *testing.T) {
	for _, x := range []struct {
		name        string
		least, most int
	}{
		{"Workers", 1, 16},
		{"Levels", 1, 64},
		{"Classes", 1, 8}, // wide has 10 levels
		{"Tasks", 1, 256},
		{"Deque", 1, 64},
		{"Heap", 1, 64},
		{"Batch", 1, 9}, // the Deque of wide
		{"Age", 0, 65536},
		{"Patience", 1, 65536},
	} {
		for _, v := range []int{
			math.MinInt, math.MinInt + 1, math.MinInt32, -256, -1, 0, 1, 2, x.least - 1, x.least, x.least + 1, x.most - 1, x.most,
			x.most + 1, x.most + 2, 2 * x.most, 1 << 17, 1<<32 + x.least, math.MaxInt32, math.MaxInt - 1, math.MaxInt,
		} {
			c := wide()
			*number(&c, x.name) = v
			want := api.ErrRange
			if x.least <= v && v <= x.most {
				want = api.OK
			}
			checkCode(t, fmt.Sprint(x.name, " ", v), c, want)
		}
	}
}

// P5.1: Classes is at most the lesser of MaxClasses and Levels, and Batch at most Deque.
func TestCheckNumbersThatDepend(t *testing.T) {
	for levels := 1; levels <= 12; levels++ {
		for classes := -1; classes <= 13; classes++ {
			c := wide()
			c.Levels, c.Classes = levels, classes
			want := api.ErrRange
			if classes >= 1 && classes <= 8 && classes <= levels {
				want = api.OK
			}
			checkCode(t, fmt.Sprint(classes, " classes of ", levels, " levels"), c, want)
		}
	}
	for classes, want := range map[int]api.Errno{7: api.OK, 8: api.OK, 9: api.ErrRange, 64: api.ErrRange} {
		c := wide()
		c.Levels, c.Classes = 64, classes
		checkCode(t, fmt.Sprint(classes, " classes of 64 levels"), c, want)
	}
	for deque := -1; deque <= 66; deque++ {
		for batch := -1; batch <= 67; batch++ {
			c := wide()
			c.Deque, c.Batch = deque, batch
			want := api.ErrRange
			if deque >= 1 && deque <= 64 && batch >= 1 && batch <= deque {
				want = api.OK
			}
			checkCode(t, fmt.Sprint("Batch ", batch, " and Deque ", deque), c, want)
		}
	}
}

// P5.1: no program, as many programs as there may be, and more; the same of the instructions of a program, and of submissions.
func TestCheckLengths(t *testing.T) {
	for _, x := range []struct {
		progs, code, subs int
		want              api.Errno
	}{
		{0, 0, 0, api.ErrLimit},
		{1, 0, 0, api.OK},
		{2, 0, 0, api.OK},
		{31, 1, 1, api.OK},
		{32, 1, 1, api.OK},
		{33, 1, 1, api.ErrLimit},
		{64, 0, 0, api.ErrLimit},
		{1000, 1, 1, api.ErrLimit},
		{1, 31, 0, api.OK},
		{1, 32, 0, api.OK},
		{1, 33, 0, api.ErrLimit},
		{32, 32, 0, api.OK},
		{32, 33, 0, api.ErrLimit},
		{1, 1000, 0, api.ErrLimit},
		{1, 0, 63, api.OK},
		{1, 0, 64, api.OK},
		{1, 0, 65, api.ErrLimit},
		{1, 0, 1000, api.ErrLimit},
		{32, 32, 64, api.OK},
	} {
		c := wide()
		c.Progs, c.Subs = nil, nil
		for range x.progs {
			c.Progs = append(c.Progs, slices.Repeat([]api.Instr{compute(1)}, x.code))
		}
		for range x.subs {
			c.Subs = append(c.Subs, sub(0, 0, 0))
		}
		checkCode(t, fmt.Sprint(x.progs, " programs of ", x.code, " instructions and ", x.subs, " submissions"), c, x.want)
		if x.progs == 0 {
			c.Progs = [][]api.Instr{}
			checkCode(t, "an empty list of programs", c, api.ErrLimit)
		}
	}
	for _, at := range []int{0, 1, 2} {
		for n, want := range map[int]api.Errno{32: api.OK, 33: api.ErrLimit} {
			c := full()
			c.Progs[at] = slices.Repeat([]api.Instr{join(0)}, n)
			checkCode(t, fmt.Sprint(n, " instructions of program ", at), c, want)
		}
	}
}

// ends are numbers around the ends of all ranges of instructions and submissions for three programs and five levels.
func ends() []int {
	return []int{
		math.MinInt, math.MinInt32, -256, -2, -1, 0, 1, 2, 3, 4, 5, 6, 7, 8, 9, 15, 16, 30, 31, 32, 33, 62, 63, 64, 65, 66, 255, 256, 257,
		16777214, 16777215, 16777216, 1 << 32, 1<<32 + 1, math.MaxInt - 1, math.MaxInt,
	}
}

// P5.1: each kind of instruction, and other kinds, with all pairs of numbers around the ends of the ranges, as the chapter defines valid ones; in each place of each program.
func TestCheckInstructions(t *testing.T) {
	for _, op := range []int{math.MinInt, -256, -3, -2, -1, 0, 1, 2, 3, 4, 5, 255, 256, 257, 258, 1 << 32, math.MaxInt} {
		for _, a := range ends() {
			for _, b := range ends() {
				ok := op == 0 && a >= 1 && a <= 64 && b == 0 ||
					op == 1 && a >= 0 && a <= 2 && b >= 0 && b <= 4 ||
					op == 2 && a >= 0 && a <= 31 && b == 0
				want := api.OK
				if !ok {
					want = api.ErrRange
				}
				c := full()
				c.Levels = 5
				c.Progs[0][1] = api.Instr{Op: op, A: a, B: b}
				checkCode(t, fmt.Sprint("the instruction ", c.Progs[0][1]), c, want)
			}
		}
	}
	for _, at := range [][2]int{{0, 0}, {0, 1}, {0, 2}, {2, 0}, {2, 1}} {
		for x, want := range map[api.Instr]api.Errno{
			{Op: 3}: api.ErrRange, {Op: -1}: api.ErrRange, {Op: math.MaxInt}: api.ErrRange,
			compute(0): api.ErrRange, compute(65): api.ErrRange, compute(64): api.OK, {Op: api.Compute, A: 1, B: 1}: api.ErrRange,
			spawn(3, 0): api.ErrRange, spawn(-1, 0): api.ErrRange, spawn(2, 2): api.OK, spawn(0, 3): api.ErrRange, spawn(0, -1): api.ErrRange,
			join(32): api.ErrRange, join(-1): api.ErrRange, join(31): api.OK, {Op: api.Join, B: -1}: api.ErrRange,
		} {
			c := full()
			c.Progs[at[0]][at[1]] = x
			checkCode(t, fmt.Sprint("the instruction ", x, " at ", at), c, want)
		}
	}
}

// P5.1: the programs that exist and the levels are those of this configuration.
func TestCheckSpawns(t *testing.T) {
	for progs := 1; progs <= 32; progs++ {
		for _, levels := range []int{1, 2, 7, 63, 64} {
			c := wide()
			c.Levels = levels
			c.Progs = make([][]api.Instr, progs)
			for _, x := range []struct {
				prog, level    int
				instr, request api.Errno
			}{
				{0, 0, api.OK, api.OK},
				{progs - 1, levels - 1, api.OK, api.OK},
				{progs, 0, api.ErrRange, api.ErrUnknown},
				{0, levels, api.ErrRange, api.ErrRange},
				{-1, 0, api.ErrRange, api.ErrUnknown},
				{0, -1, api.ErrRange, api.ErrRange},
			} {
				what := fmt.Sprint(x.prog, " at level ", x.level, " for ", progs, " programs and ", levels, " levels")
				c.Progs[progs-1], c.Subs = []api.Instr{spawn(x.prog, x.level)}, nil
				checkCode(t, "a Spawn of "+what, c, x.instr)
				c.Progs[progs-1], c.Subs = nil, []api.Submission{sub(x.prog, x.level, 0)}
				checkCode(t, "a submission of "+what, c, x.request)
			}
		}
	}
}

// P5.1: a submission's Prog, Level and Deadline around the ends of their ranges: ErrUnknown for the program comes before ErrRange.
func TestCheckSubmissions(t *testing.T) {
	for _, prog := range ends() {
		for _, level := range ends() {
			for _, deadline := range ends() {
				want := api.OK
				if prog < 0 || prog > 2 {
					want = api.ErrUnknown
				} else if level < 0 || level > 4 || deadline < 0 || deadline > 16777215 {
					want = api.ErrRange
				}
				c := full()
				c.Levels = 5
				c.Subs[1] = sub(prog, level, deadline)
				checkCode(t, fmt.Sprint("the submission ", c.Subs[1]), c, want)
			}
		}
	}
	for at := range 64 {
		for s, want := range map[api.Submission]api.Errno{
			sub(0, 0, 16777216): api.ErrRange, sub(0, 0, -1): api.ErrRange, sub(0, 3, 0): api.ErrRange, sub(3, 0, 0): api.ErrUnknown, sub(3, 3, 0): api.ErrUnknown,
		} {
			c := full()
			c.Subs = slices.Repeat([]api.Submission{sub(2, 2, 16777215)}, 64)
			c.Subs[at] = s
			checkCode(t, fmt.Sprint("the submission ", s, " at ", at), c, want)
		}
	}
}

// fault is something wrong with a configuration.
type fault struct {
	what string
	make func(c *api.Config)
	err  api.Errno
}

// faults returns what can be wrong with full, in the order of P5.1.
func faults() []fault {
	long := slices.Repeat([]api.Instr{join(0)}, 33)
	var l []fault
	for _, name := range names() {
		l = append(l, fault{name, func(c *api.Config) { *number(c, name) = -1 }, api.ErrRange})
	}
	return append(l,
		fault{"too many programs", func(c *api.Config) { c.Progs = append(c.Progs, make([][]api.Instr, 33)...) }, api.ErrLimit},
		fault{"program 0 too long", func(c *api.Config) { c.Progs[0] = append(c.Progs[0], long...) }, api.ErrLimit},
		fault{"instruction 0 of program 0", func(c *api.Config) { c.Progs[0][0].A = 65 }, api.ErrRange},
		fault{"instruction 1 of program 0", func(c *api.Config) { c.Progs[0][1].A = 99 }, api.ErrRange},
		fault{"program 1 too long", func(c *api.Config) { c.Progs[1] = append(c.Progs[1], long...) }, api.ErrLimit},
		fault{"program 2 too long", func(c *api.Config) { c.Progs[2] = append(c.Progs[2], long...) }, api.ErrLimit},
		fault{"instruction 1 of program 2", func(c *api.Config) { c.Progs[2][1].Op = 3 }, api.ErrRange},
		fault{"too many submissions", func(c *api.Config) { c.Subs = append(c.Subs, make([]api.Submission, 65)...) }, api.ErrLimit},
		fault{"Prog of submission 0", func(c *api.Config) { c.Subs[0].Prog = 99 }, api.ErrUnknown},
		fault{"Level of submission 0", func(c *api.Config) { c.Subs[0].Level = 99 }, api.ErrRange},
		fault{"Deadline of submission 0", func(c *api.Config) { c.Subs[0].Deadline = -1 }, api.ErrRange},
		fault{"Prog of submission 1", func(c *api.Config) { c.Subs[1].Prog = -1 }, api.ErrUnknown},
		fault{"Level of submission 1", func(c *api.Config) { c.Subs[1].Level = -1 }, api.ErrRange},
		fault{"Deadline of submission 1", func(c *api.Config) { c.Subs[1].Deadline = 1 << 24 }, api.ErrRange},
	)
}

// P5.1: where two or three errors apply, the first one is returned, whatever the others are.
func TestCheckOrder(t *testing.T) {
	l := faults()
	for i := range l {
		for j := i; j < len(l); j++ {
			for k := j; k < len(l); k++ {
				c := full()
				for _, at := range []int{i, j, k} {
					l[at].make(&c)
				}
				checkCode(t, l[i].what+" and "+l[j].what+" and "+l[k].what, c, l[i].err)
			}
		}
	}
	// Without a program, what is wrong with numbers comes first, and what is wrong with submissions comes later.
	for _, x := range l {
		c := full()
		x.make(&c)
		c.Progs = nil
		want := api.ErrLimit
		if slices.Contains(names(), x.what) {
			want = api.ErrRange
		}
		checkCode(t, "no program and "+x.what, c, want)
	}
}

// P5.2: Machines returns Workers + 1, also for configurations that are not valid.
func TestMachines(t *testing.T) {
	for _, workers := range []int{1, 2, 16, 17, 0, -1, -2, -100, 1 << 40, math.MaxInt - 1, math.MinInt} {
		c := full()
		c.Workers = workers
		if g := config.Machines(c); g != workers+1 {
			t.Errorf("Machines for %d workers = %d, want %d", workers, g, workers+1)
		}
		if g := config.Machines(api.Config{Workers: workers}); g != workers+1 {
			t.Errorf("Machines for %d workers and nothing else = %d, want %d", workers, g, workers+1)
		}
	}
	if g := config.Machines(api.Config{Workers: math.MaxInt}); g != math.MinInt {
		t.Errorf("Machines for the greatest int = %d, want the least one", g)
	}
}

// weights returns programs with their weights.
func weights() []struct {
	p    []api.Instr
	want int
} {
	return []struct {
		p    []api.Instr
		want int
	}{
		// no instructions
		{nil, 0},
		{[]api.Instr{}, 0},
		// a Compute that is valid, and others
		{[]api.Instr{compute(1)}, 1},
		{[]api.Instr{compute(2)}, 2},
		{[]api.Instr{compute(64)}, 64},
		{[]api.Instr{compute(65)}, 65},
		{[]api.Instr{compute(math.MaxInt)}, math.MaxInt},
		{[]api.Instr{compute(0)}, 1},
		{[]api.Instr{compute(-1)}, 1},
		{[]api.Instr{compute(-9)}, 1},
		{[]api.Instr{compute(math.MinInt)}, 1},
		{[]api.Instr{{Op: api.Compute, A: 5, B: 7}}, 5},
		{[]api.Instr{{Op: api.Compute, A: -5, B: 7}}, 1},
		// other kinds, with any A
		{[]api.Instr{spawn(0, 0)}, 1},
		{[]api.Instr{spawn(7, 9)}, 1},
		{[]api.Instr{spawn(-7, -9)}, 1},
		{[]api.Instr{join(0)}, 1},
		{[]api.Instr{join(31)}, 1},
		{[]api.Instr{join(-31)}, 1},
		// kinds that do not exist
		{[]api.Instr{{Op: 3}}, 1},
		{[]api.Instr{{Op: 3, A: 5}}, 1},
		{[]api.Instr{{Op: -1, A: 5, B: 6}}, 1},
		{[]api.Instr{{Op: 256, A: 5}}, 1},
		{[]api.Instr{{Op: math.MaxInt, A: 5}, {Op: math.MinInt, A: -5}}, 2},
		// several, and more than a program may have
		{[]api.Instr{compute(3), spawn(1, 2), join(0)}, 5},
		{[]api.Instr{compute(3), compute(-3), compute(4), compute(0), join(9), {Op: 9, A: 9}}, 11},
		{slices.Repeat([]api.Instr{compute(10), join(5)}, 500), 5500},
		// sums that wrap around
		{[]api.Instr{compute(math.MaxInt), join(0)}, math.MinInt},
		{[]api.Instr{compute(math.MaxInt), compute(math.MaxInt)}, -2},
		{[]api.Instr{compute(math.MaxInt), compute(math.MaxInt), join(3), join(3), join(3)}, 1},
	}
}

// P5.2: Weight, with each kind of instruction written out.
func TestWeight(t *testing.T) {
	for _, x := range weights() {
		if g := config.Weight(x.p); g != x.want {
			t.Errorf("Weight(%v) = %d, want %d", x.p, g, x.want)
		}
	}
}

// P5.2: Heaviest is the greatest Weight, wherever the program is and whatever else the configuration contains.
func TestHeaviest(t *testing.T) {
	check := func(want int, progs ...[]api.Instr) {
		t.Helper()
		for _, c := range []api.Config{{Progs: progs}, {Workers: -1, Progs: progs, Subs: []api.Submission{sub(9, 9, 9)}}} {
			if g := config.Heaviest(c); g != want {
				t.Errorf("Heaviest of %v = %d, want %d", progs, g, want)
			}
		}
	}
	check(0)
	check(0, [][]api.Instr{}...)
	check(0, nil)
	check(0, nil, []api.Instr{}, nil)
	check(1, nil, []api.Instr{compute(-5)}, nil)
	one, two, nine := []api.Instr{join(9)}, []api.Instr{spawn(0, 0), join(0)}, []api.Instr{compute(9)}
	check(9, one, two, nine)
	check(9, one, nine, two)
	check(9, nine, two, one)
	check(9, nine, nine)
	check(2, two, one)
	check(2, nil, two, nil)
	// sums that wrap around are less than all others, but the greatest ones of a list that has no others
	negative, least := []api.Instr{compute(math.MaxInt), compute(math.MaxInt)}, []api.Instr{compute(math.MaxInt), join(0)}
	check(-2, negative)
	check(-2, least, negative)
	check(-2, negative, least)
	check(0, negative, nil)
	check(1, one, negative)
	check(math.MinInt, least)
	check(math.MaxInt, least, []api.Instr{compute(math.MaxInt)}, negative)
	for _, x := range weights() {
		check(x.want, x.p)
		check(max(x.want, 9), x.p, nine)
		check(max(x.want, 9), nine, x.p)
	}
	check(40, append(slices.Repeat([][]api.Instr{two, nine}, 40), []api.Instr{compute(40)})...)
}

// checkDecode reports an error if Decode of b is not want.
func checkDecode(t *testing.T, b []byte, want api.Config) {
	t.Helper()
	if g := config.Decode(b); text(g) != text(want) {
		t.Errorf("Decode(%v) = %v, want %v", b, g, want)
	}
}

// P5.3, with byte strings and what they mean written out.
func TestDecode(t *testing.T) {
	// base is what zeros mean.
	base := func(change func(c *api.Config)) api.Config {
		c := api.Config{Workers: 1, Levels: 1, Classes: 1, Tasks: 1, Deque: 1, Heap: 1, Batch: 1, Age: 0, Patience: 1, Progs: [][]api.Instr{nil}}
		change(&c)
		return c
	}
	for _, x := range []struct {
		b      []byte
		change func(c *api.Config)
	}{
		// no bytes, and zeros
		{nil, func(c *api.Config) {}},
		{[]byte{}, func(c *api.Config) {}},
		{[]byte{0}, func(c *api.Config) {}},
		{make([]byte, 12), func(c *api.Config) {}},
		{make([]byte, 500), func(c *api.Config) {}},
		// one byte
		{[]byte{1}, func(c *api.Config) { c.Workers = 2 }},
		{[]byte{3}, func(c *api.Config) { c.Workers = 4 }},
		{[]byte{4}, func(c *api.Config) {}},
		{[]byte{7}, func(c *api.Config) { c.Workers = 4 }},
		{[]byte{255}, func(c *api.Config) { c.Workers = 4 }},
		// bytes that end within the numbers
		{[]byte{2, 1}, func(c *api.Config) { c.Workers, c.Levels = 3, 2 }},
		{[]byte{0, 1, 1}, func(c *api.Config) { c.Levels, c.Classes = 2, 2 }},
		{[]byte{0, 0, 2, 11}, func(c *api.Config) { c.Tasks = 12 }},
		{[]byte{0, 3, 2, 12, 3}, func(c *api.Config) { c.Levels, c.Classes, c.Deque = 4, 3, 4 }},
		{[]byte{0, 0, 0, 0, 0, 3}, func(c *api.Config) { c.Heap = 4 }},
		{[]byte{0, 0, 0, 0, 2, 0, 2}, func(c *api.Config) { c.Deque, c.Batch = 3, 3 }},
		{[]byte{0, 0, 0, 0, 0, 0, 5, 5}, func(c *api.Config) { c.Age = 5 }},
		{[]byte{0, 0, 0, 0, 0, 0, 0, 6, 7}, func(c *api.Config) { c.Patience = 8 }},
		// Classes is taken modulo the lesser of 3 and Levels, and Batch modulo Deque
		{[]byte{0, 0, 5}, func(c *api.Config) {}},
		{[]byte{0, 1, 5}, func(c *api.Config) { c.Levels, c.Classes = 2, 2 }},
		{[]byte{0, 2, 5}, func(c *api.Config) { c.Levels, c.Classes = 3, 3 }},
		{[]byte{0, 3, 5}, func(c *api.Config) { c.Levels, c.Classes = 4, 3 }},
		{[]byte{0, 3, 3}, func(c *api.Config) { c.Levels = 4 }},
		{[]byte{0, 0, 0, 0, 0, 0, 7}, func(c *api.Config) {}},
		{[]byte{0, 0, 0, 0, 1, 0, 7}, func(c *api.Config) { c.Deque, c.Batch = 2, 2 }},
		{[]byte{0, 0, 0, 0, 2, 0, 7}, func(c *api.Config) { c.Deque, c.Batch = 3, 2 }},
		{[]byte{0, 0, 0, 0, 3, 0, 7}, func(c *api.Config) { c.Deque, c.Batch = 4, 4 }},
		// bytes that end behind the numbers, and within a program
		{[]byte{0, 0, 0, 0, 0, 0, 0, 0, 0, 3}, func(c *api.Config) { c.Progs = make([][]api.Instr, 4) }},
		{[]byte{0, 0, 0, 0, 0, 0, 0, 0, 0, 0, 1}, func(c *api.Config) { c.Progs = [][]api.Instr{{compute(1)}} }},
		{[]byte{0, 0, 0, 0, 0, 0, 0, 0, 0, 0, 2, 2}, func(c *api.Config) { c.Progs = [][]api.Instr{{join(0), compute(1)}} }},
		{[]byte{0, 0, 0, 0, 0, 0, 0, 0, 0, 1, 2, 1, 1}, func(c *api.Config) { c.Progs = [][]api.Instr{{spawn(1, 0), compute(1)}, nil} }},
		{[]byte{0, 1, 0, 0, 0, 0, 0, 0, 0, 1, 0, 2, 1, 3, 3}, func(c *api.Config) {
			c.Levels, c.Progs = 2, [][]api.Instr{nil, {spawn(1, 1), compute(1)}}
		}},
		{[]byte{0, 0, 0, 0, 0, 0, 0, 0, 0, 0, 5, 0, 3, 0, 4, 2, 3, 2, 4, 4, 9}, func(c *api.Config) {
			c.Progs = [][]api.Instr{{compute(4), compute(1), join(3), join(0), spawn(0, 0)}}
		}},
		// bytes that end within a submission
		{[]byte{0, 0, 0, 0, 0, 0, 0, 0, 0, 0, 0, 2}, func(c *api.Config) { c.Subs = []api.Submission{sub(0, 0, 0), sub(0, 0, 0)} }},
		{[]byte{0, 2, 0, 0, 0, 0, 0, 0, 0, 1, 0, 0, 2, 1}, func(c *api.Config) {
			c.Levels, c.Progs, c.Subs = 3, make([][]api.Instr, 2), []api.Submission{sub(1, 0, 0), sub(0, 0, 0)}
		}},
		{[]byte{0, 2, 0, 0, 0, 0, 0, 0, 0, 1, 0, 0, 2, 1, 2}, func(c *api.Config) {
			c.Levels, c.Progs, c.Subs = 3, make([][]api.Instr, 2), []api.Submission{sub(1, 2, 0), sub(0, 0, 0)}
		}},
		{[]byte{0, 2, 0, 0, 0, 0, 0, 0, 0, 1, 0, 0, 2, 1, 2, 15, 3, 5, 17}, func(c *api.Config) {
			c.Levels, c.Progs, c.Subs = 3, make([][]api.Instr, 2), []api.Submission{sub(1, 2, 15), sub(1, 2, 1)}
		}},
	} {
		checkDecode(t, x.b, base(x.change))
	}
	checkDecode(t, fullBytes(), full())
	checkDecode(t, append(fullBytes(), 0), full())
	checkDecode(t, append(fullBytes(), 1, 2, 3, 255), full())
}

// P5.3: bytes of 255, of which all numbers are read.
func TestDecodeGreatBytes(t *testing.T) {
	want := api.Config{Workers: 4, Levels: 4, Classes: 1, Tasks: 4, Deque: 4, Heap: 4, Batch: 4, Age: 3, Patience: 8}
	for range 4 {
		want.Progs = append(want.Progs, []api.Instr{compute(4), compute(4), compute(4)})
	}
	for range 3 {
		want.Subs = append(want.Subs, sub(3, 3, 15))
	}
	checkDecode(t, bytes.Repeat([]byte{255}, 9+1+4*7+1+9), want)
	checkDecode(t, bytes.Repeat([]byte{255}, 1<<20), want)
}

// P5.3, as it is worded, for many byte strings; Check accepts all that is decoded.
func TestDecodeMixed(t *testing.T) {
	check := func(b []byte) {
		t.Helper()
		want, _ := plainDecode(b)
		g := config.Decode(b)
		if text(g) != text(want) {
			t.Fatalf("Decode(%v) = %v, want %v", b, g, want)
		}
		if e := config.Check(g); e != api.OK {
			t.Fatalf("Check(Decode(%v)) = %d", b, e)
		}
	}
	next := mixed(5)
	for i := range 20000 {
		check(mixedBytes(next, i%120))
	}
	// each value of each byte of the bytes of a configuration
	for i := range fullBytes() {
		for v := range 256 {
			b := fullBytes()
			b[i] = byte(v)
			check(b)
		}
	}
}

// P5.3: bytes that end anywhere mean the same as with zeros behind them; what stands behind the last byte that is read means nothing.
func TestDecodeEnds(t *testing.T) {
	next := mixed(6)
	for i := range 300 {
		b := mixedBytes(next, 120)
		if i == 0 {
			b = fullBytes()
		}
		want, moduli := plainDecode(b)
		for end := range len(b) + 1 {
			zeros := slices.Concat(b[:end], make([]byte, 200))
			if g, w := config.Decode(b[:end]), config.Decode(zeros); text(g) != text(w) {
				t.Fatalf("Decode(%v) = %v, but with zeros behind it %v", b[:end], g, w)
			}
		}
		read := b[:len(moduli)]
		checkDecode(t, read, want)
		for n := range 20 {
			checkDecode(t, slices.Concat(read, mixedBytes(next, n)), want)
		}
	}
}

// checkEncode reports an error if Encode of c is not as said.
func checkEncode(t *testing.T, what string, c api.Config, want []byte, err api.Errno) {
	t.Helper()
	b, e := config.Encode(c)
	if !bytes.Equal(b, want) || e != err {
		t.Errorf("Encode of %s = %v, %d, want %v, %d", what, b, e, want, err)
	}
}

// P5.4, with configurations and their bytes written out, among them such as end with one zero or several.
func TestEncode(t *testing.T) {
	checkEncode(t, "all that Decode makes", full(), fullBytes(), api.OK)
	zero := config.Decode(nil)
	checkEncode(t, "what zeros mean", zero, nil, api.OK)
	for _, x := range []struct {
		change func(c *api.Config)
		want   []byte
	}{
		{func(c *api.Config) { c.Workers = 4 }, []byte{3}},
		{func(c *api.Config) { c.Levels = 4 }, []byte{0, 3}},
		{func(c *api.Config) { c.Levels, c.Classes = 4, 3 }, []byte{0, 3, 2}},
		{func(c *api.Config) { c.Levels, c.Classes = 2, 2 }, []byte{0, 1, 1}},
		{func(c *api.Config) { c.Tasks = 12 }, []byte{0, 0, 0, 11}},
		{func(c *api.Config) { c.Deque = 4 }, []byte{0, 0, 0, 0, 3}},
		{func(c *api.Config) { c.Heap = 4 }, []byte{0, 0, 0, 0, 0, 3}},
		{func(c *api.Config) { c.Deque, c.Batch = 4, 4 }, []byte{0, 0, 0, 0, 3, 0, 3}},
		{func(c *api.Config) { c.Age = 5 }, []byte{0, 0, 0, 0, 0, 0, 0, 5}},
		{func(c *api.Config) { c.Patience = 8 }, []byte{0, 0, 0, 0, 0, 0, 0, 0, 7}},
		{func(c *api.Config) { c.Progs = make([][]api.Instr, 4) }, []byte{0, 0, 0, 0, 0, 0, 0, 0, 0, 3}},
		{func(c *api.Config) { c.Progs = [][]api.Instr{{compute(1)}} }, []byte{0, 0, 0, 0, 0, 0, 0, 0, 0, 0, 1}},
		{func(c *api.Config) { c.Progs = [][]api.Instr{{compute(4)}} }, []byte{0, 0, 0, 0, 0, 0, 0, 0, 0, 0, 1, 0, 3}},
		{func(c *api.Config) { c.Progs = [][]api.Instr{{join(0)}} }, []byte{0, 0, 0, 0, 0, 0, 0, 0, 0, 0, 1, 2}},
		{func(c *api.Config) { c.Progs = [][]api.Instr{{spawn(0, 0)}} }, []byte{0, 0, 0, 0, 0, 0, 0, 0, 0, 0, 1, 1}},
		{func(c *api.Config) { c.Progs = [][]api.Instr{slices.Repeat([]api.Instr{compute(1)}, 5), nil, nil} }, []byte{0, 0, 0, 0, 0, 0, 0, 0, 0, 2, 5}},
		{func(c *api.Config) { c.Subs = make([]api.Submission, 5) }, []byte{0, 0, 0, 0, 0, 0, 0, 0, 0, 0, 0, 5}},
		{func(c *api.Config) { c.Subs = []api.Submission{sub(0, 0, 15), sub(0, 0, 0)} }, []byte{0, 0, 0, 0, 0, 0, 0, 0, 0, 0, 0, 2, 0, 0, 15}},
		{func(c *api.Config) { c.Subs = []api.Submission{sub(0, 0, 0), sub(0, 0, 1)} }, []byte{0, 0, 0, 0, 0, 0, 0, 0, 0, 0, 0, 2, 0, 0, 0, 0, 0, 1}},
	} {
		c := config.Clone(zero)
		x.change(&c)
		checkEncode(t, fmt.Sprint(c), c, x.want, api.OK)
	}
	c := full()
	c.Subs[1] = sub(1, 0, 0)
	checkEncode(t, "two zeros at the end", c, fullBytes()[:len(fullBytes())-2], api.OK)
	c.Subs[1] = sub(0, 0, 0)
	checkEncode(t, "three zeros at the end", c, fullBytes()[:len(fullBytes())-3], api.OK)
}

// P5.4: what is encoded decodes to the configuration, no byte is as great as the number that it is taken modulo, and the last one is not 0; for all kinds of configurations that were decoded.
func TestEncodeMixed(t *testing.T) {
	next := mixed(7)
	for i := range 20000 {
		c := config.Decode(mixedBytes(next, i%120))
		b, e := config.Encode(c)
		if e != api.OK {
			t.Fatalf("Encode(%v): error %d", c, e)
		}
		if g := config.Decode(b); text(g) != text(c) {
			t.Fatalf("Decode(Encode(%v)) = %v", c, g)
		}
		_, moduli := plainDecode(b)
		if len(b) > len(moduli) {
			t.Fatalf("Encode(%v) = %v, of which %d bytes are read", c, b, len(moduli))
		}
		for j := range b {
			if int(b[j]) >= moduli[j] {
				t.Fatalf("Encode(%v) = %v: byte %d is not less than %d", c, b, j, moduli[j])
			}
		}
		if len(b) > 0 && b[len(b)-1] == 0 {
			t.Fatalf("Encode(%v) = %v: the last byte is 0", c, b)
		}
	}
}

// beyond returns valid configurations that are not the Decode of any bytes: each number just beyond what Decode makes, and such that its lowest byte alone, or what remains modulo, is valid.
func beyond() map[string]func(c *api.Config) {
	l := map[string]func(c *api.Config){
		"Levels and Classes 4": func(c *api.Config) { c.Levels, c.Classes = 4, 4 },
		"Levels and Classes 8": func(c *api.Config) { c.Levels, c.Classes = 8, 8 },
		"Deque and Batch 5":    func(c *api.Config) { c.Deque, c.Batch = 5, 5 },
		"Deque and Batch 64":   func(c *api.Config) { c.Deque, c.Batch = 64, 64 },
		"five programs":        func(c *api.Config) { c.Progs = append(c.Progs, nil, nil) },
		"32 programs":          func(c *api.Config) { c.Progs = append(c.Progs, make([][]api.Instr, 29)...) },
		"program 3 of five":    func(c *api.Config) { c.Progs, c.Subs[0].Prog = append(c.Progs, nil, nil), 3 },
		"program 4 of five":    func(c *api.Config) { c.Progs, c.Subs[0].Prog = append(c.Progs, nil, nil), 4 },
		"a Spawn of 4 of five": func(c *api.Config) { c.Progs, c.Progs[0][1].A = append(c.Progs, nil, nil), 4 },
		"level 3 of 5":         func(c *api.Config) { c.Levels, c.Subs[0].Level = 5, 3 },
		"level 4 of 5":         func(c *api.Config) { c.Levels, c.Subs[0].Level = 5, 4 },
		"a Spawn at 4 of 5":    func(c *api.Config) { c.Levels, c.Progs[0][1].B = 5, 4 },
	}
	for name, values := range map[string][]int{
		"Workers":  {5, 6, 8, 16},
		"Levels":   {5, 6, 8, 64},
		"Tasks":    {13, 14, 24, 255, 256},
		"Deque":    {5, 6, 8, 64},
		"Heap":     {5, 6, 8, 64},
		"Age":      {6, 7, 12, 255, 256, 257, 259, 512, 65535, 65536},
		"Patience": {9, 10, 16, 256, 257, 258, 260, 65535, 65536},
	} {
		for _, v := range values {
			l[fmt.Sprint(name, " ", v)] = func(c *api.Config) { *number(c, name) = v }
		}
	}
	for _, v := range []int{5, 6, 8, 63, 64} {
		l[fmt.Sprint("Compute ", v)] = func(c *api.Config) { c.Progs[0][0].A = v }
		l[fmt.Sprint("a last Compute ", v)] = func(c *api.Config) { c.Progs[2][1].A = v }
	}
	for _, v := range []int{4, 5, 7, 8, 31} {
		l[fmt.Sprint("Join ", v)] = func(c *api.Config) { c.Progs[0][2].A = v }
	}
	for _, v := range []int{6, 7, 12, 32} {
		l[fmt.Sprint(v, " instructions")] = func(c *api.Config) { c.Progs[1] = slices.Repeat([]api.Instr{compute(1)}, v) }
		l[fmt.Sprint(v, " submissions")] = func(c *api.Config) { c.Subs = make([]api.Submission, v) }
	}
	for _, v := range []int{16, 17, 25, 255, 256, 257, 265, 65536 + 9, 1<<24 - 1} {
		l[fmt.Sprint("Deadline ", v)] = func(c *api.Config) { c.Subs[0].Deadline = v }
		l[fmt.Sprint("a last Deadline ", v)] = func(c *api.Config) { c.Subs[1].Deadline = v }
	}
	return l
}

// P5.4: ErrRange and no bytes (R4) for valid configurations that are not the Decode of any bytes.
func TestEncodeBeyond(t *testing.T) {
	for what, change := range beyond() {
		c := full()
		change(&c)
		if e := config.Check(c); e != api.OK {
			t.Errorf("Check with %s = %d, want OK", what, e)
		}
		checkEncode(t, what, c, nil, api.ErrRange)
	}
}

// P5.4: a valid configuration has bytes exactly if all of its numbers are within what Decode makes.
func TestEncodeValid(t *testing.T) {
	next := mixed(8)
	// about returns a number from least to most, or seldom the next one, which is still valid.
	inside := true
	about := func(least, most int) int {
		if next(60) == 0 {
			inside = false
			return most + 1
		}
		return least + next(most-least+1)
	}
	with, without := 0, 0
	for range 20000 {
		inside = true
		c := api.Config{Workers: about(1, 4), Levels: about(1, 4), Tasks: about(1, 12), Deque: about(1, 4), Heap: about(1, 4), Age: about(0, 5), Patience: about(1, 8)}
		c.Classes, c.Batch = 1+next(min(3, c.Levels)), 1+next(c.Deque)
		c.Progs = make([][]api.Instr, about(1, 4))
		for i := range c.Progs {
			for range about(0, 5) {
				c.Progs[i] = append(c.Progs[i], []func() api.Instr{
					func() api.Instr { return compute(about(1, 4)) },
					func() api.Instr { return spawn(next(len(c.Progs)), next(c.Levels)) },
					func() api.Instr { return join(about(0, 3)) },
				}[next(3)]())
			}
		}
		for range about(0, 5) {
			c.Subs = append(c.Subs, sub(next(len(c.Progs)), next(c.Levels), about(0, 15)))
		}
		b, e := config.Encode(c)
		if inside && (e != api.OK || text(config.Decode(b)) != text(c)) {
			t.Fatalf("Encode(%v) = %v, %d, which decodes to %v", c, b, e, config.Decode(b))
		}
		if !inside && (e != api.ErrRange || len(b) != 0) {
			t.Fatalf("Encode(%v) = %v, %d, want ErrRange", c, b, e)
		}
		if inside {
			with++
		} else {
			without++
		}
	}
	if with < 1000 || without < 1000 {
		t.Errorf("%d configurations with bytes and %d without: too few", with, without)
	}
}

// P5.4: the error of Check comes first, also where there are no bytes for another reason.
func TestEncodeNotValid(t *testing.T) {
	checkEncode(t, "zeros", api.Config{}, nil, api.ErrRange)
	for _, f := range faults() {
		c := full()
		f.make(&c)
		checkEncode(t, f.what, c, nil, f.err)
		c = full()
		c.Patience = 9
		f.make(&c)
		checkEncode(t, f.what+" and a great Patience", c, nil, f.err)
		c = full()
		c.Subs[1].Deadline = 16
		f.make(&c)
		checkEncode(t, f.what+" and a great Deadline", c, nil, f.err)
	}
	c := full()
	c.Progs = nil
	checkEncode(t, "no program", c, nil, api.ErrLimit)
}

// changes returns changes of full, each of which makes it another configuration.
func changes() []func(c *api.Config) {
	var l []func(c *api.Config)
	for _, d := range []int{1, -1, 256, 1 << 32, math.MinInt} {
		for _, name := range names() {
			l = append(l, func(c *api.Config) { *number(c, name) += d })
		}
		for _, at := range [][2]int{{0, 0}, {0, 1}, {0, 2}, {2, 0}, {2, 1}} {
			l = append(l,
				func(c *api.Config) { c.Progs[at[0]][at[1]].Op += d },
				func(c *api.Config) { c.Progs[at[0]][at[1]].A += d },
				func(c *api.Config) { c.Progs[at[0]][at[1]].B += d })
		}
		for i := range 2 {
			l = append(l,
				func(c *api.Config) { c.Subs[i].Prog += d },
				func(c *api.Config) { c.Subs[i].Level += d },
				func(c *api.Config) { c.Subs[i].Deadline += d })
		}
	}
	return append(l,
		// lists of different lengths, and the same elements elsewhere
		func(c *api.Config) { c.Progs = nil },
		func(c *api.Config) { c.Progs = c.Progs[:2] },
		func(c *api.Config) { c.Progs = c.Progs[1:] },
		func(c *api.Config) { c.Progs = append(c.Progs, nil) },
		func(c *api.Config) { c.Progs[0], c.Progs[1] = c.Progs[1], c.Progs[0] },
		func(c *api.Config) { c.Progs[0] = nil },
		func(c *api.Config) { c.Progs[0] = c.Progs[0][:2] },
		func(c *api.Config) { c.Progs[0] = append(c.Progs[0], api.Instr{}) },
		func(c *api.Config) { c.Progs[1] = append(c.Progs[1], api.Instr{}) },
		func(c *api.Config) { c.Progs[2] = c.Progs[2][1:] },
		func(c *api.Config) { c.Progs[2][0], c.Progs[2][1] = c.Progs[2][1], c.Progs[2][0] },
		func(c *api.Config) { c.Progs[0], c.Progs[1] = c.Progs[0][:2], c.Progs[0][2:] },
		func(c *api.Config) { c.Subs = nil },
		func(c *api.Config) { c.Subs = c.Subs[:1] },
		func(c *api.Config) { c.Subs = c.Subs[1:] },
		func(c *api.Config) { c.Subs = append(c.Subs, api.Submission{}) },
		func(c *api.Config) { c.Subs[0], c.Subs[1] = c.Subs[1], c.Subs[0] },
		// two numbers exchanged
		func(c *api.Config) { c.Workers, c.Levels = c.Levels, c.Workers },
		func(c *api.Config) { c.Age, c.Patience = c.Patience, c.Age },
	)
}

// P5.5: each field, each number of an instruction and of a submission, and each length makes two configurations unequal.
func TestEqual(t *testing.T) {
	check := func(a, b api.Config, want bool) {
		t.Helper()
		if g := config.Equal(a, b); g != want {
			t.Errorf("Equal(%v, %v) = %v", a, b, g)
		}
		if g := config.Equal(b, a); g != want {
			t.Errorf("Equal(%v, %v) = %v", b, a, g)
		}
	}
	check(full(), full(), true)
	check(api.Config{}, api.Config{}, true)
	check(api.Config{}, full(), false)
	check(wide(), full(), false)
	all := []api.Config{full(), {}, wide(), config.Decode(nil)}
	for _, change := range changes() {
		c := full()
		change(&c)
		all = append(all, c)
		check(full(), c, false)
	}
	// many of them are not valid
	for _, a := range all {
		for _, b := range all {
			check(a, b, text(a) == text(b))
		}
	}
}

// P5.5: nil and empty lists have the same elements.
func TestEqualOfEmptyLists(t *testing.T) {
	null := func() api.Config { return api.Config{Workers: 1, Progs: [][]api.Instr{nil, {join(1)}, nil}} }
	for _, change := range []func(c *api.Config){
		func(c *api.Config) { c.Progs[0] = []api.Instr{} },
		func(c *api.Config) { c.Progs[2] = make([]api.Instr, 0, 9) },
		func(c *api.Config) { c.Subs = []api.Submission{} },
	} {
		c := null()
		change(&c)
		if !config.Equal(c, null()) || !config.Equal(null(), c) {
			t.Errorf("a nil list is not equal to an empty one: %#v", c)
		}
		if d := config.Clone(c); !config.Equal(d, null()) {
			t.Errorf("a clone of an empty list is not equal to a nil one: %#v", d)
		}
	}
	a, b := api.Config{Progs: [][]api.Instr{}}, api.Config{Subs: []api.Submission{}}
	if !config.Equal(a, b) || !config.Equal(b, a) || !config.Equal(a, api.Config{}) || !config.Equal(api.Config{}, b) {
		t.Error("empty lists are not equal to nil ones")
	}
}

// P5.5: a clone is equal to the configuration, valid or not, and a change of one of the two does not change the other one.
func TestClone(t *testing.T) {
	for i, change := range changes() {
		c := full()
		d := config.Clone(c)
		change(&d)
		if text(c) != text(full()) {
			t.Errorf("change %d of a clone changed the configuration: %v", i, c)
		}
		changed := text(d)
		e := config.Clone(d)
		if text(e) != changed || !config.Equal(e, d) || !config.Equal(d, e) {
			t.Errorf("Clone(%v) = %v", d, e)
		}
		c = full()
		d = config.Clone(c)
		change(&c)
		if text(d) != text(full()) {
			t.Errorf("change %d of a configuration changed its clone: %v", i, d)
		}
	}
	for _, c := range []api.Config{{}, wide(), {Workers: math.MinInt, Patience: -3, Progs: make([][]api.Instr, 50), Subs: make([]api.Submission, 99)}} {
		if d := config.Clone(c); text(d) != text(c) || !config.Equal(c, d) {
			t.Errorf("Clone(%v) = %v", c, d)
		}
	}
}

// P5.5: no lists of a clone share memory with each other or with room behind those of the configuration.
func TestCloneSharesNothing(t *testing.T) {
	room := make([]api.Instr, 9)
	c := full()
	c.Progs = append(make([][]api.Instr, 0, 9), room[:2], room[:4], room[:0])
	c.Subs = append(make([]api.Submission, 0, 9), c.Subs...)
	d := config.Clone(c)
	d.Progs[0][0].A = 7
	if d.Progs[1][0].A != 0 || room[0].A != 0 {
		t.Error("two programs of a clone share memory, or one with the configuration")
	}
	for i := range d.Progs {
		d.Progs[i] = append(d.Progs[i], compute(9))
	}
	d.Progs = append(d.Progs, []api.Instr{compute(9)})
	d.Subs = append(d.Subs, sub(9, 9, 9))
	if slices.Contains(room, compute(9)) || c.Progs[:4][3] != nil || c.Subs[:3][2] != sub(0, 0, 0) {
		t.Error("a list of a clone has room that belongs to the configuration")
	}
}

// R3: no call changes its arguments, and results share no memory with them or with other results.
func TestResultsAreNew(t *testing.T) {
	b := slices.Grow(fullBytes(), 50)
	end := len(b)
	behind := b[end:cap(b)]
	c, d := config.Decode(b), config.Decode(b)
	if !bytes.Equal(b, fullBytes()) || slices.Max(behind) != 0 {
		t.Errorf("Decode changed its bytes: %v, %v", b, behind)
	}
	clear(b)
	for i, p := range d.Progs {
		for j := range p {
			p[j].A += 50
		}
		d.Progs[i] = append(p, compute(9))
	}
	for i := range d.Subs {
		d.Subs[i].Level += 50
	}
	if text(c) != text(full()) || text(config.Decode(fullBytes())) != text(full()) {
		t.Errorf("a result of Decode changed with its bytes or with another result: %v", c)
	}

	x, _ := config.Encode(c)
	y, _ := config.Encode(c)
	for i := range x {
		x[i]++
	}
	x = append(x, 9)
	config.Check(c)
	config.Machines(c)
	config.Weight(c.Progs[0])
	config.Heaviest(c)
	config.Equal(c, d)
	config.Equal(d, c)
	if text(c) != text(full()) {
		t.Errorf("a call changed its configuration: %v", c)
	}
	c.Progs[0][0].A, c.Subs[1].Deadline = 1, 1
	if z, _ := config.Encode(full()); !bytes.Equal(y, fullBytes()) || !bytes.Equal(z, fullBytes()) {
		t.Errorf("a result of Encode changed with the configuration or with another result: %v, %v", y, z)
	}
}

// R1: every call ends for configurations and byte strings that are far too long.
func TestGreatArguments(t *testing.T) {
	const n = 1 << 18
	p := slices.Repeat([]api.Instr{compute(2), {Op: -5, A: math.MinInt, B: math.MaxInt}}, n)
	c := full()
	c.Progs = slices.Repeat([][]api.Instr{{join(4)}}, n)
	c.Progs[n-1] = p
	c.Subs = slices.Repeat([]api.Submission{sub(math.MaxInt, math.MinInt, -1)}, n)
	checkCode(t, "many programs", c, api.ErrLimit)
	if g := config.Weight(p); g != 3*n {
		t.Errorf("Weight of %d instructions = %d, want %d", len(p), g, 3*n)
	}
	if g := config.Heaviest(c); g != 3*n {
		t.Errorf("Heaviest of %d programs = %d, want %d", n, g, 3*n)
	}
	if b, e := config.Encode(c); len(b) != 0 || e != api.ErrLimit {
		t.Errorf("Encode of %d programs = %d bytes, error %d", n, len(b), e)
	}
	d := config.Clone(c)
	if !config.Equal(c, d) {
		t.Error("a clone of a great configuration is not equal to it")
	}
	d.Subs[n-1].Deadline = 0
	if config.Equal(c, d) {
		t.Error("great configurations that differ in the last number are equal")
	}
	long := append(fullBytes(), bytes.Repeat([]byte{77}, n)...)
	checkDecode(t, long, full())
}

// The chapter's examples.
func TestExamples(t *testing.T) {
	want := api.Config{Workers: 1, Levels: 1, Classes: 1, Tasks: 1, Deque: 1, Heap: 1, Batch: 1, Age: 0, Patience: 1, Progs: [][]api.Instr{{}}}
	if g := config.Decode([]byte{}); text(g) != text(want) || len(g.Progs) != 1 || len(g.Subs) != 0 {
		t.Errorf("example 1: Decode = %v, want %v", g, want)
	}
	if g := config.Weight([]api.Instr{compute(3), spawn(0, 0), join(0)}); g != 5 {
		t.Errorf("example 2: Weight = %d, want 5", g)
	}
}
