package levels_test

import (
	"fmt"
	"slices"
	"testing"

	"worksteal/api"
	"worksteal/bitmap"
	"worksteal/levels"
	"worksteal/machine"
	"worksteal/owner"
	"worksteal/steptest"
	"worksteal/thief"
)

// Stacks are what a worker has: the entries of each level, and whether its bit is 1.
type stacks struct {
	c       api.Config
	worker  int
	entries [][]int
	bits    []bool
}

// push returns how many steps a Push takes, and its code.
func (s *stacks) push(level, value int) (steps, code int) {
	if len(s.entries[level]) == s.c.Deque {
		return 2, api.Full
	}
	s.entries[level] = append(s.entries[level], value)
	s.bits[level] = true
	return 4 + 1, api.Fine
}

// pop returns how many steps a Pop takes, and its code and its value.
func (s *stacks) pop() (steps, code, value int) {
	for level := s.c.Levels - 1; level >= 0; level-- {
		last := len(s.entries[level]) - 1
		switch {
		case last > 0:
			steps += 1 + 5
		case last == 0:
			steps += 1 + 7
		case s.bits[level]:
			s.bits[level] = false
			steps += 1 + 2 + 3
		}
		if last >= 0 {
			value = s.entries[level][last]
			s.entries[level] = s.entries[level][:last]
			return steps, api.Got, value
		}
	}
	return steps + 1, api.Empty, 0
}

// The consequence of P13.1 and P13.2: without other machines a worker has a stack for each level, and Pop takes the entry that was pushed last among those of the highest level that has any. The workers of an environment do not touch one another's entries.
func TestStacks(t *testing.T) {
	for _, c := range sizes() {
		some := steptest.Mixed(7)
		e := steptest.Made(c)
		var all []*stacks
		for worker := range c.Workers {
			all = append(all, &stacks{c, worker, make([][]int, c.Levels), make([]bool, c.Levels)})
		}
		pushing := 3
		for i := range 2000 {
			// Times of more pushes and times of more pops follow one another, so that deques become full and empty.
			if i%100 == 0 {
				pushing = 1 + some(4)
			}
			if s := all[some(len(all))]; some(5) < pushing {
				level := some(c.Levels)
				steps, code := s.push(level, i)
				run(t, fmt.Sprintf("Push(%d, %d, %d)", s.worker, level, i), e, levels.Push(s.worker, level, i), steps, code, 0)
			} else {
				steps, code, value := s.pop()
				run(t, fmt.Sprintf("Pop(%d), number %d", s.worker, i), e, levels.Pop(s.worker), steps, code, value)
			}
		}
		for _, s := range all {
			popAll(t, e, s)
		}
	}
}

// popAll pops all entries of a worker, and one more.
func popAll(t *testing.T, e *machine.Env, s *stacks) {
	t.Helper()
	for code := api.Got; code == api.Got; {
		var steps, value int
		steps, code, value = s.pop()
		run(t, fmt.Sprintf("Pop(%d) at the end", s.worker), e, levels.Pop(s.worker), steps, code, value)
	}
	if g := e.Memory.Peek(bitsOf(s.c, s.worker)); g != 0 {
		t.Errorf("the bitmap of worker %d is %#x at the end", s.worker, g)
	}
}

// A recorder performs the lines of the chapter in an environment, while another machine puts something into cells now and then, and keeps what must be done as steps.
type recorder struct {
	e     *machine.Env
	some  func(n int) int
	puts  int
	steps []step
	// clears are the codes of all Clears.
	clears []int
}

// line performs a line, perhaps behind a put.
func (r *recorder) line(perform func(e *machine.Env)) {
	var s step
	if r.puts > 0 && r.some(3) == 0 {
		r.puts--
		s.Puts = []put{r.near()}
		r.e.Memory.Store(s.Puts[0].Cell, s.Puts[0].V)
	}
	count := r.e.Memory.Count()
	perform(r.e)
	if r.e.Memory.Count() > count {
		s.Access = r.e.Memory.Last()
	}
	r.steps = append(r.steps, s)
}

// near returns a put into one of the bitmaps and deques of two workers that is near to what is there.
func (r *recorder) near() put {
	if r.some(2) == 0 {
		return put{Cell: bits, V: r.e.Memory.Peek(bits) ^ 1<<r.some(4)}
	}
	cell := bits - 1 + r.some(r.e.Layout.State(0)-bits+1)
	return put{Cell: cell, V: r.e.Memory.Peek(cell) + uint64(r.some(4)) - 1}
}

// run performs the lines of another machine.
func (r *recorder) run(x machine.Machine) (code, value int) {
	for done := false; !done; {
		r.line(func(e *machine.Env) { done = x.Step(e) })
	}
	return x.Result()
}

// push performs the lines of P13.1.
func (r *recorder) push(worker, level, value int) (code, result int) {
	l := r.e.Layout
	if code, _ := r.run(owner.Push(l.Queue(worker, level), value)); code == api.Full {
		return api.Full, 0
	}
	r.run(bitmap.Set(l.Bitmap(worker), level))
	return api.Fine, 0
}

// pop performs the lines of P13.2.
func (r *recorder) pop(worker int) (code, value int) {
	l := r.e.Layout
	for {
		var x uint64
		r.line(func(e *machine.Env) { x = e.Memory.Load(l.Bitmap(worker)) })
		if x == 0 {
			return api.Empty, 0
		}
		level := 63
		for x < 1<<level {
			level--
		}
		if code, value := r.run(owner.Pop(l.Queue(worker, level))); code == api.Got {
			return api.Got, value
		}
		code, _ := r.run(bitmap.Clear(l.Bitmap(worker), level, l.Queue(worker, level)))
		r.clears = append(r.clears, code)
	}
}

// P13.1, P13.2 and R7: machines in environments of all kinds do what the lines of the chapter do that are performed one after another, while another machine puts something into cells now and then. Each way through the lines occurs.
func TestRecorded(t *testing.T) {
	some := steptest.Mixed(5)
	seen := map[string]int{}
	for range 20000 {
		e := steptest.Made(home, join(
			has(low, uint64(some(3)), make([]uint64, some(4))...), has(middle, top-uint64(some(3)), make([]uint64, some(4))...),
			has(high, uint64(some(3)), make([]uint64, some(3))...), is(bits, uint64(some(16))))...)
		for level := range home.Levels {
			e.Memory.Store(dequeOf(home, 1, level).Ring, uint64(some(9)))
		}
		r := &recorder{e: e.Copy(), some: some, puts: some(12)}
		w := steptest.Way{Env: e}
		worker := 1 + some(9)/8
		if some(2) == 0 {
			level, value := some(home.Levels+2)-1, some(100)-50
			w.What = fmt.Sprintf("Push(%d, %d, %d)", worker, level, value)
			w.Make = func() machine.Machine { return levels.Push(worker, level, value) }
			w.Code, w.Value = r.push(worker, level, value)
		} else {
			w.What = fmt.Sprintf("Pop(%d)", worker)
			w.Make = func() machine.Machine { return levels.Pop(worker) }
			w.Code, w.Value = r.pop(worker)
		}
		w.Steps = r.steps
		seen[fmt.Sprint(w.Code, slices.Contains(r.clears, api.Empty), slices.Contains(r.clears, api.Got))]++
		if steptest.Check(t, w); t.Failed() {
			return
		}
	}
	for _, way := range []string{
		fmt.Sprint(api.Fine, false, false), fmt.Sprint(api.Full, false, false),
		fmt.Sprint(api.Got, false, false), fmt.Sprint(api.Got, true, false), fmt.Sprint(api.Got, false, true), fmt.Sprint(api.Got, true, true),
		fmt.Sprint(api.Empty, false, false), fmt.Sprint(api.Empty, true, false), fmt.Sprint(api.Empty, false, true), fmt.Sprint(api.Empty, true, true),
	} {
		if seen[way] == 0 {
			t.Errorf("the way %s did not occur, so that it was not tested", way)
		}
	}
}

// A series is what an actor of a scene runs.
type series = []machine.Machine

// A plot is a scene with worker 0 of a configuration, whose owner is the first actor: what is there at first, and what each machine of the owner pushes, 0 for a Pop. All entries are different and positive, and tell their level.
type plot struct {
	c      api.Config
	there  []int
	pushes []int
	scene  steptest.Scene
}

// begins returns numbers from which the indices of a deque may begin. Behind some hundreds of pushes they are below 2^64 still, beyond which nothing is promised.
func begins() []uint64 { return []uint64{0, 1, 1000, half - 20, half - 1, top - 500} }

// entry returns entry number n of a level.
func entry(level, n int) int { return 100*(level+1) + n }

// levelOf returns the level of an entry.
func levelOf(entry int) int { return entry/100 - 1 }

// steals returns what a thief runs to steal from a level and clear its bit, as a worker does.
func steals(c api.Config, level int) series {
	return series{thief.Steal(dequeOf(c, 0, level)), lowers(c, level)}
}

// lowers returns a Clear of the bit of a level.
func lowers(c api.Config, level int) machine.Machine {
	return bitmap.Clear(bitsOf(c, 0), level, dequeOf(c, 0, level))
}

// plotted returns a plot whose indices begin with a number: entries that are there, what the owner pushes or pops, and what thieves run.
func plotted(c api.Config, begin uint64, there, pushes []int, thieves ...series) plot {
	e := steptest.Made(c)
	for level := range c.Levels {
		for _, p := range has(dequeOf(c, 0, level), begin) {
			e.Memory.Store(p.Cell, p.V)
		}
	}
	for _, v := range there {
		machine.Run(e, levels.Push(0, levelOf(v), v), 9)
	}
	var own series
	for _, v := range pushes {
		if v == 0 {
			own = append(own, levels.Pop(0))
		} else {
			own = append(own, levels.Push(0, levelOf(v), v))
		}
	}
	return plot{c, there, pushes, steptest.Play(e, append([]series{own}, thieves...)...)}
}

// pushed returns the entries of a plot that came into a deque, in order.
func (p plot) pushed(end steptest.Scene) []int {
	l := slices.Clone(p.there)
	for i, r := range end.Actors[0].Results {
		if p.pushes[i] != 0 && r.Code == api.Fine {
			l = append(l, p.pushes[i])
		}
	}
	return l
}

// takenOf returns the entries that the machines of a scene got. A Clear that is done with Got has none.
func takenOf(end steptest.Scene) []int {
	var l []int
	for _, a := range end.Actors {
		for _, r := range a.Results {
			if r.Code == api.Got && r.Value != 0 {
				l = append(l, r.Value)
			}
		}
	}
	return l
}

// checkEnd reports an error unless each entry that was pushed was taken once or is still there, each level with entries has its bit, and Pops without other machines get all of them in their order.
func (p plot) checkEnd(t *testing.T, end steptest.Scene) {
	t.Helper()
	pushed, taken := p.pushed(end), takenOf(end)
	left := slices.Clone(pushed)
	for _, v := range taken {
		i := slices.Index(left, v)
		if i < 0 {
			t.Errorf("of %v that were pushed, %v were taken", pushed, taken)
			return
		}
		left = slices.Delete(left, i, i+1)
	}
	// What was pushed last comes first, but for the levels.
	slices.Reverse(left)
	slices.SortStableFunc(left, func(a, b int) int { return levelOf(b) - levelOf(a) })
	e := end.Env.Copy()
	for _, v := range left {
		if e.Memory.Peek(bitsOf(p.c, 0))>>levelOf(v)%2 == 0 {
			t.Errorf("%v were pushed and %v taken, but the bitmap is %d", pushed, taken, e.Memory.Peek(bitsOf(p.c, 0)))
		}
	}
	for _, v := range append(left, 0) {
		x := levels.Pop(0)
		machine.Run(e, x, 1000)
		if code, value := x.Result(); value != v || (code == api.Got) != (v != 0) {
			t.Errorf("%v were pushed and %v taken, but a Pop is done with %d and %d, want %d", pushed, taken, code, value, v)
		}
	}
}

// The consequence with thieves: in all orders of the steps of an owner and of thieves that steal from the deques of its levels and clear their bits, no entry is lost or taken twice.
func TestAllOrders(t *testing.T) {
	c := sized(1, 2, 2)
	a, b := entry(0, 1), entry(0, 2)
	u, v, w := entry(1, 1), entry(1, 2), entry(1, 3)
	for _, begin := range []uint64{0, half - 1} {
		for i, p := range []plot{
			plotted(c, begin, []int{u}, []int{0, v}, steals(c, 1)),
			plotted(c, begin, []int{u, a}, []int{0, 0}, steals(c, 1), steals(c, 0)),
			plotted(c, begin, nil, []int{a, u, 0}, steals(c, 1)),
			plotted(c, begin, []int{a, u, v}, []int{0, w}, steals(c, 1), steals(c, 1)),
			plotted(c, begin, []int{u, v}, []int{w, 0, 0}, slices.Concat(steals(c, 1), steals(c, 1))),
			plotted(c, begin, []int{a, b}, []int{0, u, 0}, steals(c, 0), series{lowers(c, 1), lowers(c, 0)}),
			plotted(c, begin, nil, []int{u, 0, v}, series{lowers(c, 1)}, steals(c, 1)),
		} {
			results := map[string]bool{}
			steptest.Orders(p.scene, func(s steptest.Scene) {
				if s.Over() && !t.Failed() {
					p.checkEnd(t, s)
					results[fmt.Sprint(s.Actors[0].Results)] = true
				}
			})
			if len(results) < 2 {
				t.Errorf("scene %d, indices from %d on: in all orders the results of the owner are %v", i, begin, results)
			}
		}
	}
}

// The same for many orders of the steps of an owner and of thieves with long lists of what they run, on several levels.
func TestManyOrders(t *testing.T) {
	c := sized(1, 4, 3)
	found, missed := 0, 0
	for seed := range 200 {
		some := steptest.Mixed(uint64(seed))
		var pushes []int
		for i := range 60 {
			pushes = append(pushes, some(2)*entry(some(c.Levels), i))
		}
		thieves := make([]series, 1+some(3))
		for i := range thieves {
			for range 20 {
				thieves[i] = append(thieves[i], steals(c, some(c.Levels))...)
			}
		}
		p := plotted(c, begins()[seed%len(begins())], nil, pushes, thieves...)
		end := steptest.Order(p.scene, some)
		p.checkEnd(t, end)
		for i, r := range end.Actors[0].Results {
			if pushes[i] == 0 && r.Code == api.Got {
				found++
			}
			if pushes[i] == 0 && r.Code == api.Empty {
				missed++
			}
		}
	}
	if found < 1000 || missed < 1000 {
		t.Errorf("%d Pops got an entry and %d did not, so that few were tested", found, missed)
	}
}
