package order_test

import (
	"fmt"
	"math"
	"slices"
	"testing"

	"worksteal/api"
	"worksteal/order"
)

// wrong returns what makes a valid configuration one that is not, for each of the errors of config.Check.
func wrong() map[api.Errno][]func(c *api.Config) {
	return map[api.Errno][]func(c *api.Config){
		api.ErrRange: {
			func(c *api.Config) { c.Workers = 0 },
			func(c *api.Config) { c.Workers = api.MaxWorkers + 1 },
			func(c *api.Config) { c.Levels = 0 },
			func(c *api.Config) { c.Classes = 4 },
			func(c *api.Config) { c.Tasks = -1 },
			func(c *api.Config) { c.Deque = 65 },
			func(c *api.Config) { c.Heap = 0 },
			func(c *api.Config) { c.Heap = api.MaxHeap + 1 },
			func(c *api.Config) { c.Heap = math.MinInt },
			func(c *api.Config) { c.Batch = 5 },
			func(c *api.Config) { c.Age = -1 },
			func(c *api.Config) { c.Patience = 0 },
			func(c *api.Config) { c.Progs[0][0].A = 0 },
			func(c *api.Config) { c.Subs[1].Level = 3 },
			func(c *api.Config) { c.Subs[1].Deadline = -1 },
			func(c *api.Config) { c.Subs[1].Deadline = math.MinInt },
			func(c *api.Config) { c.Subs[1].Deadline = api.MaxDeadline + 1 },
			func(c *api.Config) { c.Subs[1].Deadline = math.MaxInt },
		},
		api.ErrLimit: {
			func(c *api.Config) { c.Progs = nil },
			func(c *api.Config) { c.Progs = make([][]api.Instr, api.MaxProgs+1) },
			func(c *api.Config) { c.Progs[1] = make([]api.Instr, api.MaxCode+1) },
			func(c *api.Config) { c.Subs = make([]api.Submission, api.MaxSubs+1) },
		},
		api.ErrUnknown: {
			func(c *api.Config) { c.Subs[0].Prog = 2 },
			func(c *api.Config) { c.Subs[0].Prog = -1 },
			func(c *api.Config) { c.Subs[0].Prog = 2; c.Subs[1].Level = 3 },
		},
	}
}

// P17.1, P17.2: a configuration that is not valid, whatever the events are.
func TestNotValid(t *testing.T) {
	lists := [][]api.Event{nil, l(remove(0)), l(accept(0, 0)), l(accept(0, 0), accept(1, 1), remove(1)), l(accept(0, 9)), l(reject(1)), l(reject(2), reject(1))}
	for want, changes := range wrong() {
		for i, change := range changes {
			for _, events := range lists {
				c := with(3, 9, 4)
				change(&c)
				checkError(t, way{fmt.Sprintf("error %d, change %d", want, i), c, events, 0, nil}, want)
			}
		}
	}
	checkError(t, way{"no configuration", api.Config{}, lists[3], 0, nil}, api.ErrRange)
}

// mixed returns a function whose calls return numbers from 0 to n - 1 that look random; the same seed gives the same ones.
func mixed(seed uint64) func(n int) int {
	return func(n int) int {
		seed = seed*6364136223846793005 + 1442695040888963407
		return int(seed >> 33 % uint64(n))
	}
}

// plain is a list of the waiting submissions and tasks in the order of their acceptance.
type plain struct {
	c    api.Config
	list [][2]int
}

// sorted returns the list sorted by deadlines; a stable sort keeps the order of acceptance.
func (p *plain) sorted() [][2]int {
	s := slices.Clone(p.list)
	slices.SortStableFunc(s, func(a, b [2]int) int { return p.c.Subs[a[0]].Deadline - p.c.Subs[b[0]].Deadline })
	return s
}

// takes reports whether an event is allowed, and changes the list.
func (p *plain) takes(e api.Event) bool {
	switch e.Kind {
	case api.EvAccept:
		if e.Other < 0 || e.Other >= len(p.c.Subs) || len(p.list) >= p.c.Heap {
			return false
		}
		p.list = append(p.list, [2]int{e.Other, e.Task})
	case api.EvRemove:
		if len(p.list) == 0 || p.sorted()[0][1] != e.Task {
			return false
		}
		i := slices.Index(p.list, p.sorted()[0])
		p.list = slices.Delete(p.list, i, i+1)
	case api.EvReject:
		return e.Level != 1 || len(p.list) == p.c.Heap
	}
	return true
}

// tasks returns the tasks in the order of their keys.
func (p *plain) tasks() []int {
	var of []int
	for _, x := range p.sorted() {
		of = append(of, x[1])
	}
	return of
}

// propose returns an event that looks random; most of those that it returns are allowed.
func (p *plain) propose(next func(n int) int) api.Event {
	e := api.Event{Worker: next(4), Task: next(7), Other: next(9), Level: next(4)}
	switch k := next(20); {
	case k < 9 && len(p.list) < p.c.Heap || k == 17:
		e.Kind, e.Other = api.EvAccept, next(len(p.c.Subs))
	case k < 15 && len(p.list) > 0:
		e.Kind, e.Task = api.EvRemove, p.sorted()[0][1]
	case k < 17:
		e.Kind, e.Level = api.EvReject, 2
		if len(p.list) == p.c.Heap {
			e.Level = 1
		}
	default:
		e.Kind = next(25)
	}
	return e
}

// mixedConfig returns a valid configuration whose deadlines are equal in many cases.
func mixedConfig(next func(n int) int) api.Config {
	c := with([]int{1, 2, 3, 8, 64}[next(5)])
	most := []int{1, 2, 5, 100, api.MaxDeadline + 1}[next(5)]
	for range 1 + next(8) {
		c.Subs = append(c.Subs, api.Submission{Prog: next(2), Level: next(3), Deadline: next(most)})
	}
	return c
}

// P17.1, P17.2, P5: long lists, beside a list that is sorted anew each time.
func TestLongLists(t *testing.T) {
	next := mixed(17)
	for i := range 300 {
		p := plain{c: mixedConfig(next)}
		var events []api.Event
		n := 400
		for k := range 400 {
			e := p.propose(next)
			events = append(events, e)
			if n == 400 && !p.takes(e) {
				n = k
				// A few more events come behind the first one that is not allowed.
				if i%2 == 0 {
					break
				}
			}
		}
		n = min(n, len(events))
		check(t, way{fmt.Sprint("list ", i), p.c, events, n, p.tasks()})
	}
}

// P17.1, P17.2: long lists whose events are all allowed, and each of their beginnings.
func TestAllAllowed(t *testing.T) {
	next := mixed(71)
	for i := range 40 {
		p := plain{c: mixedConfig(next)}
		var events []api.Event
		for len(events) < 120 {
			e := p.propose(next)
			if q := (plain{p.c, slices.Clone(p.list)}); !q.takes(e) {
				check(t, way{fmt.Sprint("bad event behind list ", i), p.c, slices.Concat(events, l(e)), len(events), p.tasks()})
				continue
			}
			p.takes(e)
			events = append(events, e)
			check(t, way{fmt.Sprint("list ", i), p.c, events, len(events), p.tasks()})
		}
	}
}

// P17.1, P17.2: all short lists of a few events.
func TestAllShortLists(t *testing.T) {
	c := with(2, 5, 3, 5)
	some := l(accept(0, 0), accept(1, 1), accept(2, 2), remove(0), remove(1), remove(2), reject(1), reject(2))
	var extend func(events []api.Event)
	extend = func(events []api.Event) {
		p := plain{c: c}
		n := 0
		for n < len(events) && p.takes(events[n]) {
			n++
		}
		check(t, way{"a short list", c, events, n, p.tasks()})
		if n < len(events) || n == 5 {
			return
		}
		for _, e := range some {
			extend(slices.Concat(events, l(e)))
		}
	}
	extend(nil)
}

// R1: a list that is longer than a text of events may be.
func TestVeryLongList(t *testing.T) {
	c := with(64, 3, 1, 2)
	var events []api.Event
	for range 200 {
		for i := range 64 {
			events = append(events, accept(i, 1))
		}
		for range 200 {
			events = append(events, reject(1))
		}
		for i := range 64 {
			events = append(events, remove(i))
		}
	}
	check(t, way{"a very long list", c, events, len(events), nil})
	n := len(events) - 1
	events = append(events, remove(0))
	check(t, way{"a very long list", c, events, n + 1, nil})
}

// R2: equal calls give equal answers, whatever was called in between.
func TestEqualCalls(t *testing.T) {
	c, d := with(2, 9, 4), with(1, 4, 9)
	for range 3 {
		checkAll(t,
			way{"first", c, l(accept(0, 0), accept(1, 1), remove(1)), 3, tasks(0)},
			way{"second", d, l(accept(0, 0), accept(1, 1), remove(1)), 1, tasks(0)},
		)
		if n, e := order.Check(api.Config{}, nil); n != 0 || e != api.ErrRange {
			t.Errorf("Check of no configuration = %d, %d", n, e)
		}
	}
}
