package order_test

import (
	"fmt"
	"math"
	"slices"
	"testing"

	"worksteal/api"
	"worksteal/order"
)

// with returns a valid configuration with room for heap keys, and a submission for each deadline.
func with(heap int, deadlines ...int) api.Config {
	c := api.Config{
		Workers: 2, Levels: 3, Classes: 2, Tasks: 5, Deque: 4, Heap: heap, Batch: 2, Age: 3, Patience: 4,
		Progs: [][]api.Instr{{{Op: api.Compute, A: 3}}, {}},
	}
	for i, d := range deadlines {
		c.Subs = append(c.Subs, api.Submission{Prog: i % 2, Level: i % 3, Deadline: d})
	}
	return c
}

// l returns events as a list.
func l(events ...api.Event) []api.Event { return events }

// tasks returns tasks as a list.
func tasks(of ...int) []int { return of }

func accept(task, sub int) api.Event {
	return api.Event{Kind: api.EvAccept, Worker: 2, Task: task, Other: sub, Level: sub % 3}
}

func remove(task int) api.Event { return api.Event{Kind: api.EvRemove, Worker: 1, Task: task} }

func reject(why int) api.Event { return api.Event{Kind: api.EvReject, Worker: 2, Level: why} }

// accepts returns n acceptances of tasks from 0 on, for the submissions in turn.
func accepts(n, subs int) []api.Event {
	var events []api.Event
	for i := range n {
		events = append(events, accept(i, i%subs))
	}
	return events
}

// way is a list of events, the number that Check returns for it, and the tasks that are left.
type way struct {
	what   string
	c      api.Config
	events []api.Event
	n      int
	left   []int
}

// check reports an error if Check or Left do not return what they must, or do not keep R2 and R3.
func check(t *testing.T, x way) {
	t.Helper()
	want := api.ErrEvent
	if x.n == len(x.events) {
		want = api.OK
	}
	checkError(t, x, want)
}

// checkError reports an error if Check does not return the number and the error that it must, or Left not what it must, or if they do not keep R2 and R3.
func checkError(t *testing.T, x way, want api.Errno) {
	t.Helper()
	// The list is a part of a longer one, so that a change behind its end is seen.
	whole := slices.Concat(l(accept(71, 0)), x.events, l(remove(72), accept(73, 1), reject(1)))
	events := whole[1 : 1+len(x.events)]
	before, config := slices.Clone(whole), fmt.Sprint(x.c)
	for range 2 {
		if n, e := order.Check(x.c, events); n != x.n || e != want {
			t.Errorf("%s: Check = %d, %d, want %d, %d, for %v", x.what, n, e, x.n, want, short(x.events))
		}
	}
	a, b := order.Left(x.c, events), order.Left(x.c, events)
	if !slices.Equal(a, x.left) || !slices.Equal(b, x.left) {
		t.Errorf("%s: Left = %v and again %v, want %v, for %v", x.what, a, b, x.left, short(x.events))
		return
	}
	for i := range a[:cap(a)] {
		a[:cap(a)][i] = 99
	}
	if !slices.Equal(whole, before) || fmt.Sprint(x.c) != config {
		t.Errorf("%s: the arguments became %v and %v", x.what, whole, x.c)
	}
	clear(whole)
	if !slices.Equal(b, x.left) {
		t.Errorf("%s: what Left returned before became %v, want %v", x.what, b, x.left)
	}
}

// short returns the text of a list, without what is too long to be read.
func short(events []api.Event) string {
	s := fmt.Sprint(events)
	return s[:min(len(s), 2000)]
}

// checkAll checks ways.
func checkAll(t *testing.T, ways ...way) {
	t.Helper()
	for _, x := range ways {
		check(t, x)
	}
}

// P17.1, P17.2: no events.
func TestNoEvents(t *testing.T) {
	for _, c := range []api.Config{with(1), with(64, 9, 4)} {
		checkAll(t, way{"nil", c, nil, 0, nil}, way{"empty", c, l(), 0, nil})
		if n, e := order.Check(c, nil); n != 0 || e != api.OK || len(order.Left(c, nil)) != 0 {
			t.Errorf("no list: %d, %d, %v", n, e, order.Left(c, nil))
		}
	}
}

// EvAccept: Other is the number of a submission.
func TestAcceptNeedsASubmission(t *testing.T) {
	for subs := range 4 {
		c := with(3, []int{9, 4, 6}[:subs]...)
		for _, other := range []int{math.MinInt, -1 << 32, -3, -2, -1, 0, 1, 2, 3, 4, 64, 1 << 16, 1 << 32, math.MaxInt} {
			e := accept(7, 0)
			e.Other = other
			what := fmt.Sprintf("%d submissions, Other %d", subs, other)
			if 0 <= other && other < subs {
				check(t, way{what, c, l(e, reject(2)), 2, tasks(7)})
			} else {
				check(t, way{what, c, l(e, reject(2)), 0, nil})
			}
		}
	}
	most := make([]int, api.MaxSubs)
	c := with(2, most...)
	checkAll(t,
		way{"the last of all", c, l(accept(1, 63), accept(2, 0)), 2, tasks(1, 2)},
		way{"behind the last of all", c, l(accept(1, 64), accept(2, 0)), 0, nil},
	)
}

// EvAccept: there are fewer than Heap keys.
func TestAcceptNeedsRoom(t *testing.T) {
	for heap := 1; heap <= api.MaxHeap; heap++ {
		c := with(heap, 5)
		full := accepts(heap, 1)
		var all []int
		for i := range heap {
			all = append(all, i)
		}
		checkAll(t,
			way{"one less", c, full[:heap-1], heap - 1, all[:heap-1]},
			way{"full", c, full, heap, all},
			way{"one more", c, slices.Concat(full, l(accept(80, 0))), heap, all},
			way{"one removed", c, slices.Concat(full, l(remove(0), accept(80, 0))), heap + 2, append(slices.Clone(all[1:]), 80)},
			way{"one removed, two more", c, slices.Concat(full, l(remove(0), accept(80, 0), accept(81, 0))), heap + 2, append(slices.Clone(all[1:]), 80)},
		)
	}
}

// EvAccept: the same submission twice, the same task twice, and tasks of any number.
func TestAcceptTakesAnyTask(t *testing.T) {
	c := with(6, 9, 4)
	checkAll(t,
		way{"a submission twice", c, l(accept(3, 1), accept(2, 1), accept(1, 0)), 3, tasks(3, 2, 1)},
		way{"a task twice", c, l(accept(3, 0), accept(3, 1), remove(3), remove(3)), 4, nil},
		way{"a task twice, left", c, l(accept(3, 0), accept(3, 1), accept(3, 1)), 3, tasks(3, 3, 3)},
		way{"all equal", c, l(accept(3, 1), accept(3, 1), remove(3), accept(3, 1)), 4, tasks(3, 3)},
		way{"a task again", c, l(accept(3, 1), remove(3), accept(3, 1), remove(3)), 4, nil},
		way{"a task of the table and others", c, l(accept(-1, 0), accept(5, 0), accept(256, 0), accept(math.MinInt, 0), accept(math.MaxInt, 0)), 5,
			tasks(-1, 5, 256, math.MinInt, math.MaxInt)},
		way{"removed", c, l(accept(math.MinInt, 0), accept(math.MaxInt, 1), remove(math.MaxInt), remove(math.MinInt)), 4, nil},
		way{"numbers that differ in high bits", c, l(accept(1<<32, 0), remove(0)), 1, tasks(1 << 32)},
	)
}

// EvAccept: arrival numbers count the acceptances before, those of removed keys among them.
func TestArrivalsCountAcceptances(t *testing.T) {
	c := with(3, 9, 4)
	checkAll(t,
		way{"behind a removal", c, l(accept(0, 0), accept(1, 0), remove(0), accept(2, 0)), 4, tasks(1, 2)},
		way{"behind two removals", c, l(accept(0, 0), accept(1, 1), accept(2, 0), remove(1), remove(0), accept(3, 0), accept(4, 0)), 7, tasks(2, 3, 4)},
		way{"behind the last removal", c, l(accept(4, 0), remove(4), accept(3, 0), accept(2, 0), remove(3)), 5, tasks(2)},
		way{"others do not count", c, l(accept(4, 0), reject(2), accept(3, 0), api.Event{Kind: api.EvSpawn}, accept(2, 0)), 5, tasks(4, 3, 2)},
	)
	// Each new key is the last of its deadline, however many have been removed.
	var events []api.Event
	for i := range 300 {
		events = append(events, accept(300-i, 0))
		if i >= 2 {
			events = append(events, remove(300-i+2))
		}
	}
	check(t, way{"many", c, events, len(events), tasks(2, 1)})
}

// EvRemove: there are keys, and the least one has this Task.
func TestRemoveNeedsTheLeastKey(t *testing.T) {
	c := with(6, 9, 4, 0, api.MaxDeadline, 4)
	checkAll(t,
		way{"no keys", c, l(remove(0)), 0, nil},
		way{"no keys any more", c, l(accept(0, 0), remove(0), remove(0)), 2, nil},
		way{"one key", c, l(accept(3, 0), remove(3)), 2, nil},
		way{"one key, another task", c, l(accept(3, 0), remove(2)), 1, tasks(3)},
		way{"a negative task", c, l(accept(3, 0), remove(-3)), 1, tasks(3)},
		way{"the last acceptance", c, l(accept(0, 0), accept(1, 1), accept(2, 2), remove(2)), 4, tasks(1, 0)},
		way{"the first acceptance", c, l(accept(2, 2), accept(1, 1), accept(0, 0), remove(2)), 4, tasks(1, 0)},
		way{"the one between", c, l(accept(1, 1), accept(2, 2), accept(0, 0), remove(2)), 4, tasks(1, 0)},
		way{"there, but not the least", c, l(accept(0, 0), accept(1, 1), accept(2, 2), remove(1)), 3, tasks(2, 1, 0)},
		way{"there, but the greatest", c, l(accept(0, 0), accept(1, 1), accept(2, 2), remove(0)), 3, tasks(2, 1, 0)},
		way{"not there", c, l(accept(0, 0), accept(1, 1), accept(2, 2), remove(5)), 3, tasks(2, 1, 0)},
		way{"the earlier of two", c, l(accept(7, 1), accept(3, 4), remove(7), remove(3)), 4, nil},
		way{"the later of two", c, l(accept(7, 1), accept(3, 4), remove(3)), 2, tasks(7, 3)},
		way{"the earlier of two, also the lesser", c, l(accept(3, 4), accept(7, 1), remove(3), remove(7)), 4, nil},
		way{"the later of two, also the greater", c, l(accept(3, 4), accept(7, 1), remove(7)), 2, tasks(3, 7)},
		way{"the ends of the range", c, l(accept(3, 3), accept(2, 2), accept(1, 0), remove(2), remove(1), remove(3)), 6, nil},
		way{"the submissions do not count", c, l(accept(3, 1), accept(2, 4), accept(1, 0), accept(0, 2), remove(0), remove(3), remove(2)), 7, tasks(1)},
	)
}

// EvReject: Level is not 1, or there are exactly Heap keys; it changes nothing.
func TestReject(t *testing.T) {
	for _, heap := range []int{1, 2, 3, 64} {
		c := with(heap, 5, 5)
		for n := range heap + 1 {
			before := accepts(n, 2)
			var left []int
			for i := range n {
				left = append(left, i)
			}
			for _, level := range []int{math.MinInt, -1, 0, 1, 2, 3, 257, 1<<32 + 1, math.MaxInt} {
				events := slices.Concat(before, l(reject(level), reject(level), reject(2)))
				many := n + 3
				if level == 1 && n < heap {
					many = n
				}
				check(t, way{fmt.Sprintf("%d keys of %d, Level %d", n, heap, level), c, events, many, left})
			}
		}
	}
	c := with(2, 5)
	checkAll(t,
		way{"not full any more", c, l(accept(0, 0), accept(1, 0), reject(1), remove(0), reject(1)), 4, tasks(1)},
		way{"full again", c, l(accept(0, 0), accept(1, 0), remove(0), accept(2, 0), reject(1), reject(1)), 6, tasks(1, 2)},
		way{"no arrival", c, l(accept(3, 0), reject(0), accept(2, 0), reject(1), remove(3), remove(2)), 6, nil},
	)
}

// All other kinds are allowed, among them such that are none, and change nothing.
func TestOtherKinds(t *testing.T) {
	c := with(2, 9, 4)
	kinds := []int{math.MinInt, math.MaxInt, 1<<32 + api.EvAccept, 1<<32 + api.EvRemove, 256 + api.EvReject, -api.EvAccept, -api.EvRemove, -api.EvReject}
	for kind := -3; kind <= 40; kind++ {
		if kind != api.EvAccept && kind != api.EvRemove && kind != api.EvReject {
			kinds = append(kinds, kind)
		}
	}
	for _, kind := range kinds {
		what := fmt.Sprint("kind ", kind)
		for _, e := range []api.Event{
			{Kind: kind}, {Kind: kind, Worker: 2, Task: 0, Other: 1, Level: 1}, {Kind: kind, Worker: -1, Task: -2, Other: -3, Level: 1},
			{Kind: kind, Worker: math.MaxInt, Task: math.MinInt, Other: math.MaxInt, Level: math.MinInt},
		} {
			checkAll(t,
				way{what, c, l(e), 1, nil},
				way{what, c, l(e, accept(0, 0), e, accept(1, 1), e, e, reject(1), remove(1), e, remove(0), e), 11, nil},
				way{what, c, l(accept(0, 0), e, accept(1, 1), e), 4, tasks(1, 0)},
				way{what, c, l(accept(0, 0), e, accept(1, 1), e, accept(2, 0), e), 4, tasks(1, 0)},
			)
		}
	}
}

// The fields that are not named do not matter.
func TestOtherFields(t *testing.T) {
	c := with(2, 9, 4)
	for _, v := range []int{math.MinInt, -1, 0, 1, 2, 17, math.MaxInt} {
		first, second, gone := accept(5, 0), accept(6, 1), remove(6)
		first.Worker, second.Worker, gone.Worker = v, v, v
		first.Level, second.Level, gone.Level, gone.Other = v, v, v, v
		not := api.Event{Kind: api.EvReject, Worker: v, Task: v, Other: v, Level: 1}
		check(t, way{fmt.Sprint("fields ", v), c, l(first, second, not, gone, not), 4, tasks(5)})
		not.Level = 2
		check(t, way{fmt.Sprint("fields ", v), c, l(not, first, not, second, not, gone), 6, tasks(5)})
	}
}

// P17.1, P17.2: the first event that is not allowed, whatever comes behind it.
func TestFirstThatIsNotAllowed(t *testing.T) {
	c := with(2, 9, 4)
	bad := l(remove(5), accept(5, 2), accept(5, -1), reject(1))
	good := l(accept(0, 0), api.Event{Kind: api.EvStart}, accept(1, 1), remove(1), reject(2), api.Event{Kind: 77})
	left := [][]int{nil, {0}, {0}, {1, 0}, {0}, {0}, {0}}
	for n := range len(good) + 1 {
		for _, e := range bad {
			if n == 3 && e.Kind == api.EvReject {
				continue // it is allowed there
			}
			head := slices.Concat(good[:n], l(e))
			checkAll(t,
				way{"the last one", c, head, n, left[n]},
				way{"good ones behind it", c, slices.Concat(head, good), n, left[n]},
				way{"bad ones behind it", c, slices.Concat(head, bad, bad), n, left[n]},
				way{"itself behind it", c, slices.Concat(head, l(e, remove(0))), n, left[n]},
			)
		}
		check(t, way{"all allowed", c, good[:n], n, left[n]})
	}
}

// The chapter's example.
func TestExamples(t *testing.T) {
	c := with(3, 9, 4)
	checkAll(t,
		way{"example 1", c, l(accept(0, 0), accept(1, 1), remove(1)), 3, tasks(0)},
		way{"example 1", c, l(accept(0, 0), accept(1, 1), remove(0)), 2, tasks(1, 0)},
	)
}
