package history_test

import (
	"fmt"
	"math"
	"slices"
	"testing"

	"worksteal/api"
	"worksteal/history"
)

// A row is a call of Linear, and what it must return.
type row struct {
	what     string
	capacity int
	ops      []api.Op
	want     bool
}

// alike returns lists of operations of which Linear must say the same: in other orders, by other machines, at other times, with other values, and with other ones where a value means nothing.
func alike(ops []api.Op) [][]api.Op {
	back := slices.Clone(ops)
	slices.Reverse(back)
	l := [][]api.Op{ops, back}
	for i := 1; i < len(ops); i++ {
		l = append(l, slices.Concat(ops[i:], ops[:i]))
	}
	last := 0
	for _, o := range ops {
		last = max(last, o.To)
	}
	wide := 1000
	if last > math.MaxInt/wide-1 {
		wide = 1
	}
	for _, change := range []func(i int, o *api.Op){
		func(i int, o *api.Op) { o.Machine = 0 },
		func(i int, o *api.Op) { o.Machine = math.MaxInt - i },
		func(i int, o *api.Op) { o.From, o.To = o.From+math.MaxInt-last, o.To+math.MaxInt-last },
		func(i int, o *api.Op) { o.From, o.To = o.From*wide, o.To*wide+wide-1 },
		func(i int, o *api.Op) { o.Value = -o.Value },
		func(i int, o *api.Op) { o.Value += math.MinInt },
		func(i int, o *api.Op) {
			if o.Code == api.Full || o.Code == api.Empty || o.Code == api.Abort {
				o.Value = i - 2
			}
		},
	} {
		changed := slices.Clone(ops)
		for i := range changed {
			change(i, &changed[i])
		}
		l = append(l, changed)
	}
	return l
}

// checkRows reports an error for each row of which Linear, or of a list that is alike, does not return what it must.
func checkRows(t *testing.T, rows ...row) {
	t.Helper()
	for _, r := range rows {
		for _, ops := range alike(r.ops) {
			if got := history.Linear(ops, r.capacity); got != r.want {
				t.Errorf("%s: Linear(%v, %d) = %t, want %t", r.what, ops, r.capacity, got, r.want)
				break
			}
		}
	}
}

// list returns operations as a list.
func list(ops ...api.Op) []api.Op { return ops }

// during returns operations that last from one pick to another one.
func during(from, to int, ops ...api.Op) []api.Op {
	l := slices.Clone(ops)
	for i := range l {
		l[i].From, l[i].To = from, to
	}
	return l
}

// oneByOne returns operations each of which begins behind the end of the one before it.
func oneByOne(ops ...api.Op) []api.Op {
	l := slices.Clone(ops)
	for i := range l {
		l[i].From, l[i].To = 10*i, 10*i+9
	}
	return l
}

// An operation of each kind with each code, to which the tests give times.

func fine(v int) api.Op { return pushes(0, 0, api.Fine, v) }

func full() api.Op { return pushes(0, 0, api.Full, 0) }

func popped(v int) api.Op { return pops(0, 0, api.Got, v) }

func popless() api.Op { return pops(0, 0, api.Empty, 0) }

func stolen(v int) api.Op { return steals(1, 0, 0, api.Got, v) }

func stealless() api.Op { return steals(1, 0, 0, api.Empty, 0) }

func aborted() api.Op { return steals(1, 0, 0, api.Abort, 0) }

// The chapter's second example, and what its first one returns.
func TestExampleLinear(t *testing.T) {
	checkRows(t,
		row{"example 1", 1, history.Play(1, [][]api.Act{{push(5), pop()}, {steal()}}, nil), true},
		row{"example 2", 1, list(pops(0, 3, api.Got, 5), pushes(4, 7, api.Fine, 5)), false},
	)
}

// P11.2: no operations are linear, and so are up to MaxOps ones, but not more.
func TestNumberOfOps(t *testing.T) {
	for n := range 2*api.MaxOps + 2 {
		for _, o := range list(popless(), stealless(), aborted()) {
			ops := slices.Repeat(list(o), n)
			checkRows(t,
				row{fmt.Sprint(n, " operations at once"), 1, ops, n <= api.MaxOps},
				row{fmt.Sprint(n, " operations one by one"), 1, oneByOne(ops...), n <= api.MaxOps},
			)
		}
	}
	for _, capacity := range []int{math.MinInt, -1, 0, 1, math.MaxInt} {
		checkRows(t, row{"no operations", capacity, nil, true}, row{"no operations", capacity, list(), true})
	}
}

// P11.2: operations of other kinds, with other codes, of other machines or at other times are not well-formed. Each of them stands beside a push with which it would be linear.
func TestWellFormed(t *testing.T) {
	codes := map[int][]int{api.OpPush: {api.Fine, api.Full}, api.OpPop: {api.Got, api.Empty}, api.OpSteal: {api.Got, api.Empty, api.Abort}}
	for _, kind := range []int{math.MinInt, -2, -1, api.OpPush, api.OpPop, api.OpSteal, 3, 4, 256, 1 << 32, math.MaxInt} {
		for _, code := range []int{math.MinInt, -2, -1, api.Fine, api.Got, api.Empty, api.Full, api.Abort, api.Busy, 6, 256, 1 << 32, math.MaxInt} {
			o := api.Op{Kind: kind, Code: code, From: 1, To: 2, Value: 5}
			if code == api.Fine {
				o.Value = 6
			}
			capacity := 2
			if code == api.Full {
				capacity = 1
			}
			what := fmt.Sprintf("kind %d with code %d", kind, code)
			checkRows(t, row{what, capacity, list(o, pushes(0, 3, api.Fine, 5)), slices.Contains(codes[kind], code)})
		}
	}
	for _, x := range []struct {
		machine, from, to int
		want              bool
	}{
		{0, 0, 0, true}, {99, 7, 7, true}, {math.MaxInt, 0, math.MaxInt, true}, {1, math.MaxInt, math.MaxInt, true},
		{-1, 0, 0, false}, {math.MinInt, 0, 0, false}, {0, -1, 0, false}, {0, -1, -1, false}, {0, math.MinInt, 5, false}, {0, math.MinInt, math.MinInt, false},
		{0, 1, 0, false}, {0, math.MaxInt, 0, false}, {0, 8, 7, false}, {0, 0, -1, false}, {0, 0, math.MinInt, false}, {0, math.MaxInt, math.MinInt, false},
	} {
		for _, o := range list(fine(5), full(), popless(), stealless(), aborted()) {
			capacity := 1
			if o.Code == api.Full {
				capacity = 0
			}
			o.Machine, o.From, o.To = x.machine, x.from, x.to
			// Alone, and behind one that is well-formed.
			for _, ops := range [][]api.Op{list(o), list(aborted(), o), list(o, aborted())} {
				if got := history.Linear(ops, capacity); got != x.want {
					t.Errorf("Linear(%v, %d) = %t, want %t", ops, capacity, got, x.want)
				}
			}
		}
	}
}

// P11.2: one operation comes before another one if its To is less than the From of that one, and only then.
func TestBefore(t *testing.T) {
	for from := range 8 {
		for to := from; to < 8; to++ {
			what := fmt.Sprintf("a push from 3 to 5, and another operation from %d to %d", from, to)
			beside := pushes(3, 5, api.Fine, 5)
			checkRows(t,
				row{what, 1, list(beside, pops(from, to, api.Got, 5)), to >= 3},
				row{what, 1, list(beside, steals(1, from, to, api.Got, 5)), to >= 3},
				row{what, 1, list(beside, pushes(from, to, api.Full, 5)), to >= 3},
				row{what, 1, list(beside, pops(from, to, api.Empty, 0)), from <= 5},
				row{what, 1, list(beside, steals(0, from, to, api.Empty, 0)), from <= 5},
				row{what, 1, list(beside, steals(0, from, to, api.Abort, 0)), true},
				row{what, 1, list(beside, pushes(from, to, api.Fine, 6)), false},
				row{what, 2, list(beside, pushes(from, to, api.Fine, 6), pops(8, 9, api.Got, 5)), from <= 5},
				row{what, 2, list(beside, pushes(from, to, api.Fine, 6), pops(8, 9, api.Got, 6)), to >= 3},
			)
		}
	}
	checkRows(t,
		row{"two operations of one machine at once", 1, list(pushes(0, 9, api.Fine, 5), pops(0, 9, api.Got, 5)), true},
		row{"the last pick", 1, list(pushes(math.MaxInt, math.MaxInt, api.Fine, 5), pops(0, math.MaxInt, api.Got, 5)), true},
		row{"the last pick but one", 1, list(pushes(math.MaxInt, math.MaxInt, api.Fine, 5), pops(0, math.MaxInt-1, api.Got, 5)), false},
		row{"a chain of operations, each of which overlaps the next one", 3, list(stolenAt(0, 1, 5), stolenAt(1, 2, 6), pushes(2, 3, api.Fine, 6), pushes(0, 4, api.Fine, 5)), true},
		row{"a chain that is a pick too short", 3, list(stolenAt(0, 1, 5), stolenAt(1, 2, 6), pushes(3, 4, api.Fine, 6), pushes(0, 4, api.Fine, 5)), false},
	)
}

// stolenAt returns a steal of a value from one pick to another one.
func stolenAt(from, to, v int) api.Op { return steals(1, from, to, api.Got, v) }

// can tells whether an operation can have its result on a list, and the list behind it, as the chapter says it.
func can(l []int, o api.Op, capacity int) ([]int, bool) {
	n := len(l)
	switch [2]int{o.Kind, o.Code} {
	case [2]int{api.OpPush, api.Fine}:
		return append(slices.Clone(l), o.Value), n < capacity
	case [2]int{api.OpPush, api.Full}:
		return l, n >= capacity
	case [2]int{api.OpPop, api.Got}:
		if n > 0 && l[n-1] == o.Value {
			return l[:n-1], true
		}
	case [2]int{api.OpSteal, api.Got}:
		if n > 0 && l[0] == o.Value {
			return l[1:], true
		}
	case [2]int{api.OpPop, api.Empty}, [2]int{api.OpSteal, api.Empty}:
		return l, n == 0
	case [2]int{api.OpSteal, api.Abort}:
		return l, true
	}
	return nil, false
}

// P11.2: each kind with each of its codes, on lists of all sizes and with all capacities. What is on the list behind it is taken away one by one, from either end.
func TestEffects(t *testing.T) {
	for size := range 5 {
		var before []api.Op
		var l []int
		for v := range size {
			before, l = append(before, fine(10+v)), append(l, 10+v)
		}
		for _, capacity := range []int{math.MinInt, -1, 0, 1, 2, 3, 4, 5, 6, 99, math.MaxInt} {
			for _, o := range list(fine(99), full(), popless(), stealless(), aborted(), popped(9), stolen(9), popped(10), stolen(10), popped(10+size-1), stolen(10+size-1), popped(10+size), stolen(11)) {
				after, ok := can(l, o, capacity)
				front, back := append(slices.Clone(before), o), append(slices.Clone(before), o)
				for i, v := range after {
					front, back = append(front, stolen(v)), append(back, popped(after[len(after)-1-i]))
				}
				what := fmt.Sprintf("%v on %v", o, l)
				checkRows(t,
					row{what, capacity, oneByOne(append(front, stealless())...), ok && size <= max(capacity, 0)},
					row{what, capacity, oneByOne(append(back, popless())...), ok && size <= max(capacity, 0)},
				)
			}
		}
	}
}

// P11.2: more lists by hand, one after another or at once.
func TestLists(t *testing.T) {
	twice := list(fine(5), fine(5))
	checkRows(t,
		row{"one value twice", 2, oneByOne(append(twice, popped(5), stolen(5), popless())...), true},
		row{"one value twice, once left", 2, oneByOne(append(twice, popped(5), stealless())...), false},
		row{"one value twice, taken three times", 2, oneByOne(append(twice, popped(5), stolen(5), stolen(5))...), false},
		row{"one value on both sides of another one", 3, oneByOne(fine(5), fine(6), fine(5), popped(5), stolen(5), popped(6)), true},
		row{"one value beside another one", 3, oneByOne(fine(5), fine(5), fine(6), popped(6), stolen(5), stolen(5), stealless()), true},
		row{"the middle of three values", 3, oneByOne(fine(5), fine(6), fine(7), popped(6)), false},
		row{"the middle of three values, stolen", 3, oneByOne(fine(5), fine(6), fine(7), stolen(6)), false},
		row{"a full list that is not full any more", 2, oneByOne(fine(5), fine(6), full(), stolen(5), fine(7), full(), popped(7), popped(6), popless()), true},
		row{"a list that is never full", 3, oneByOne(fine(5), fine(6), full()), false},
		row{"a list that is full too early", 1, oneByOne(fine(5), fine(6)), false},
		row{"no room at all", 0, oneByOne(full(), full(), popless(), stealless()), true},
		row{"less than no room", -5, oneByOne(full(), full(), popless(), stealless()), true},
		row{"a push without room", 0, oneByOne(fine(5)), false},
		row{"a push with less than no room", math.MinInt, oneByOne(fine(5)), false},
		row{"as many pushes as there can be", api.MaxOps, oneByOne(slices.Repeat(list(fine(5)), api.MaxOps)...), true},
		row{"one push too many", api.MaxOps - 1, oneByOne(slices.Repeat(list(fine(5)), api.MaxOps)...), false},
		row{"one entry taken twice at once", 1, append(oneByOne(fine(5)), during(20, 30, popped(5), stolen(5))...), false},
		row{"one entry taken by a thief at once", 1, append(oneByOne(fine(5)), during(20, 30, popless(), stolen(5))...), true},
		row{"one entry taken by the owner at once", 1, append(oneByOne(fine(5)), during(20, 30, popped(5), stealless(), aborted())...), true},
		row{"one entry taken by nobody at once", 1, append(oneByOne(fine(5)), during(20, 30, popless(), stealless())...), false},
	)
}

// six returns six pushes one by one, and other operations at once behind them.
func six(ops ...api.Op) []api.Op {
	return append(oneByOne(fine(1), fine(2), fine(3), fine(4), fine(5), fine(6)), during(100, 200, ops...)...)
}

// P11.2: orders that only a search finds, and operations for which there is none: no choice of the first operation that can have its result, in any order of the list, leads to the end.
func TestSearch(t *testing.T) {
	checkRows(t,
		row{"takers in the order of the values", 6, six(stolen(1), stolen(2), stolen(3), popped(4), popped(5), popped(6)), true},
		row{"takers that meet in the middle", 6, six(stolen(1), stolen(2), stolen(3), stolen(4), stolen(5), popped(6)), true},
		row{"the last entry for a thief", 6, six(popped(2), popped(3), popped(4), popped(5), popped(6), stolen(1)), true},
		row{"a pop in front of a steal", 6, six(popped(1), stolen(2), popped(3), popped(4), popped(5), popped(6)), false},
		row{"a pop of what is stolen", 6, six(stolen(1), stolen(2), stolen(3), popped(3), popped(5), popped(6)), false},
		row{"a full list meanwhile", 6, six(stolen(1), full(), full()), true},
		row{"a full list behind a push meanwhile", 6, append(six(stolen(1), fine(7), full()), during(300, 300, popped(7))...), true},
		row{"a push into a full list", 6, append(six(fine(7), full()), during(300, 300, stolen(1))...), false},
		row{"values that come and go at once", 1, during(0, 9, fine(1), fine(2), fine(3), fine(4), popped(1), stolen(2), popped(3), stolen(4), full(), full(), popless(), stealless()), true},
		row{"a value that goes twice", 1, during(0, 9, fine(1), fine(2), fine(3), fine(4), popped(1), stolen(2), popped(2), stolen(4), full(), full(), popless(), stealless()), false},
		row{"a pop that decides in which order two pushes were", 2, append(during(0, 9, fine(1), fine(2)), oneByOne(popless(), popless(), popped(1), popped(2))[2:]...), true},
		row{"a steal that decides in which order two pushes were", 2, append(during(0, 9, fine(1), fine(2)), oneByOne(popless(), popless(), stolen(1), popped(2))[2:]...), true},
		row{"two steals that say the contrary", 3, append(during(0, 9, fine(1), fine(2)), append(during(10, 19, stolen(1), fine(3)), during(20, 29, stolen(3))...)...), false},
		row{"two steals that say the same", 3, append(during(0, 9, fine(1), fine(2)), append(during(10, 19, stolen(1), fine(3)), during(20, 29, stolen(2))...)...), true},
	)
}

// different returns operations with the values from 1 on.
func different(n int, of func(v int) api.Op) []api.Op {
	var l []api.Op
	for v := range n {
		l = append(l, of(v+1))
	}
	return l
}

// P11.2: MaxOps operations that all overlap, some with so many orders that not all of them can be looked at.
func TestAllOverlap(t *testing.T) {
	most := api.MaxOps
	at := func(parts ...[]api.Op) []api.Op { return during(0, 99, slices.Concat(parts...)...) }
	checkRows(t,
		row{"pushes", most, at(different(most, fine)), true},
		row{"pushes without enough room", most - 1, at(different(most, fine)), false},
		row{"pushes, the last of which is full", most - 1, at(different(most-1, fine), list(full())), true},
		row{"pushes, the last of which is full too early", most, at(different(most-1, fine), list(full())), false},
		row{"pushes, and a pop of none of them", most, at(different(most-1, fine), list(popped(99))), false},
		row{"pushes, and a steal of none of them", most, at(different(most-1, fine), list(stolen(-1))), false},
		row{"pushes, and a pop of one of them", most, at(different(most-1, fine), list(popped(7))), true},
		row{"pushes, one of which is taken twice", most, at(different(most-2, fine), list(popped(7), stolen(7))), false},
		row{"pushes and steals", most, at(different(most/2, fine), different(most/2, stolen)), true},
		row{"pushes and pops", 1, at(different(most/2, popped), different(most/2, fine)), true},
		row{"pushes and pops of other values", most, at(different(most/2, fine), different(most/2-1, popped), list(popped(99))), false},
		row{"equal pushes, and too many steals", most, at(slices.Repeat(list(fine(5)), 5), slices.Repeat(list(stolen(5)), 7)), false},
		row{"equal pushes and equal steals", most, at(slices.Repeat(list(fine(5)), 6), slices.Repeat(list(stolen(5)), 6)), true},
		row{"pairs of pushes, and takers of none of them", most, at(different(4, fine), different(4, fine), different(3, stolen), list(popped(99))), false},
		row{"a pop that ends before the push of its value, among many pushes", most, append(during(0, 9, append(different(10, fine), popped(11))...), during(10, 19, fine(11))...), false},
		row{"a list that was never full", 9, at(different(8, fine), different(3, stolen), list(full())), false},
		row{"a list that was full", 8, at(different(8, fine), different(3, stolen), list(full())), true},
	)
}

// orders reports whether operations can be put in an order that has the two properties of the chapter, by trying all of them.
func orders(ops []api.Op, capacity int) bool {
	var extend func(order, rest []api.Op) bool
	extend = func(order, rest []api.Op) bool {
		if len(rest) == 0 {
			return ordered(order, capacity)
		}
		for i, o := range rest {
			if extend(append(slices.Clone(order), o), slices.Concat(rest[:i], rest[i+1:])) {
				return true
			}
		}
		return false
	}
	return extend(nil, ops)
}

// ordered reports whether an order of operations has the two properties of the chapter.
func ordered(order []api.Op, capacity int) bool {
	var l []int
	for i, o := range order {
		for _, later := range order[i+1:] {
			if later.To < o.From {
				return false
			}
		}
		var ok bool
		if l, ok = can(l, o, capacity); !ok {
			return false
		}
	}
	return true
}

// checkOrders reports an error if Linear does not say what all orders say, and returns that.
func checkOrders(t *testing.T, ops []api.Op, capacity int) bool {
	t.Helper()
	want := orders(ops, capacity)
	if got := history.Linear(ops, capacity); got != want {
		t.Errorf("Linear(%v, %d) = %t, want %t", ops, capacity, got, want)
	}
	return want
}

// P11.2: all lists of up to two operations, and many of three, are linear exactly if one of all their orders says so.
func TestSmallLists(t *testing.T) {
	var all []api.Op
	for _, o := range list(fine(0), fine(1), full(), popped(0), popped(1), popless(), stolen(0), stolen(1), stealless(), aborted()) {
		for _, x := range [][2]int{{0, 0}, {0, 1}, {1, 1}, {0, 2}, {1, 2}, {2, 2}} {
			all = append(all, during(x[0], x[1], o)...)
		}
	}
	linear := 0
	for i, a := range all {
		for capacity := -1; capacity <= 2; capacity++ {
			checkOrders(t, list(a), capacity)
			for j, b := range all {
				checkOrders(t, list(a, b), capacity)
				if c := all[(7*i+11*j)%len(all)]; checkOrders(t, list(a, b, c), capacity) {
					linear++
				}
			}
		}
	}
	if linear < 500 {
		t.Errorf("%d lists of three are linear, too few to test much", linear)
	}
}

// run returns operations that are linear by the way they were made: each has its result at a pick from its From to its To. The capacity is that of the list.
func run(some func(n int) int, n, capacity, width int) []api.Op {
	var l []int
	var ops []api.Op
	for len(ops) < n {
		v := some(5) - 1
		o := list(fine(v), fine(v), full(), popped(v), popped(v), popless(), stolen(v), stolen(v), stealless(), aborted())[some(10)]
		after, ok := can(l, o, capacity)
		if !ok {
			continue
		}
		l = after
		at := 100 + 10*len(ops)
		o.From, o.To = at-some(width), at+some(width)
		o.Machine = some(3)
		ops = append(ops, o)
	}
	for i := range ops {
		j := some(n)
		ops[i], ops[j] = ops[j], ops[i]
	}
	return ops
}

// P11.2: up to MaxOps operations that were made in an order are linear, however much they overlap and in whatever order they are listed.
func TestRuns(t *testing.T) {
	some := mixed(3)
	for range 20000 {
		n, capacity := 1+some(api.MaxOps), 1+some(5)
		ops := run(some, n, capacity, []int{1, 5, 15, 40, 100}[some(5)])
		if !history.Linear(ops, capacity) {
			t.Fatalf("Linear(%v, %d) = false", ops, capacity)
		}
	}
}

// change changes an operation a little.
func change(some func(n int) int, o *api.Op) {
	switch some(5) {
	case 0:
		o.Value = some(5) - 1
	case 1:
		o.From = max(0, o.From-some(20))
	case 2:
		o.From, o.To = o.From+20, o.To+20+some(20)
	case 3:
		o.To = max(o.From, o.To-some(40))
	default:
		o.Kind = some(3)
		o.Code = []int{api.Fine, api.Got, api.Got}[o.Kind]
		if some(2) == 0 {
			o.Code = []int{api.Full, api.Empty, api.Empty + 2*some(2)}[o.Kind]
		}
	}
}

// P11.2: operations that were made in an order, and then changed, are linear exactly if one of all their orders says so.
func TestChangedRuns(t *testing.T) {
	some := mixed(4)
	linear := map[bool]int{}
	for range 12000 {
		n, capacity := 1+some(6), 1+some(3)
		ops := run(some, n, capacity, []int{1, 15, 40, 100}[some(4)])
		for range 1 + some(3) {
			change(some, &ops[some(n)])
		}
		linear[checkOrders(t, ops, capacity-some(2))]++
		if t.Failed() {
			return
		}
	}
	if linear[true] < 2000 || linear[false] < 2000 {
		t.Errorf("%v lists are linear and are not, too few to test much", linear)
	}
}

// checkPlayed reports an error if what Play returns is not linear.
func checkPlayed(t *testing.T, capacity int, plan [][]api.Act, picks []int) []api.Op {
	t.Helper()
	ops := history.Play(capacity, plan, picks)
	if len(ops) > api.MaxOps {
		t.Fatalf("the plan %v has more than %d operations", plan, api.MaxOps)
	}
	if !history.Linear(ops, capacity) {
		t.Fatalf("Linear is false for Play(%d, %v, %v), which is %v", capacity, plan, picks, ops)
	}
	return ops
}

// The consequence of P11.1 and P11.2, and P6: whatever Play returns is linear, for capacities from 1 to MaxDeque.
func TestPlayIsLinear(t *testing.T) {
	some := mixed(5)
	lengths := map[int]int{}
	for i := range 30000 {
		plan := planned(some, 1+some(4), 5)
		for left := api.MaxOps; len(plan) > 0; plan = plan[:len(plan)-1] {
			total := 0
			for _, acts := range plan {
				total += len(acts)
			}
			if total <= left {
				break
			}
		}
		capacity := 1 + some(3)
		if i%4 == 0 {
			capacity = 1 + i/4%api.MaxDeque
		}
		lengths[len(checkPlayed(t, capacity, plan, picked(some, 60)))]++
	}
	for n := range api.MaxOps {
		if lengths[n] == 0 {
			t.Errorf("no history has %d operations", n)
		}
	}
}

// checkAllPicks checks a plan with all lists of picks that begin with some picks and go on with a number of others.
func checkAllPicks(t *testing.T, capacity int, plan [][]api.Act, picks []int, more int) (codes [6]int) {
	t.Helper()
	if more == 0 {
		for _, o := range checkPlayed(t, capacity, plan, picks) {
			codes[o.Code]++
		}
		return codes
	}
	for m := range plan {
		c := checkAllPicks(t, capacity, plan, append(picks[:len(picks):len(picks)], m), more-1)
		for i := range codes {
			codes[i] += c[i]
		}
	}
	return codes
}

// The consequence of P11.1 and P11.2, with all orders of the steps of one owner and one or two thieves around the last entries.
func TestAllPicksAreLinear(t *testing.T) {
	four, eight := make([]int, 4), make([]int, 8)
	total := checkAllPicks(t, 1, [][]api.Act{{push(1), pop()}, {steal()}}, nil, 14)
	for _, c := range [][6]int{
		checkAllPicks(t, 2, [][]api.Act{{push(1), push(2), pop(), pop()}, {steal(), steal()}}, eight, 14),
		checkAllPicks(t, 1, [][]api.Act{{push(1), pop(), push(2), pop()}, {steal(), steal()}}, four, 14),
		checkAllPicks(t, 1, [][]api.Act{{push(1), pop()}, {steal()}, {steal()}}, four, 9),
		checkAllPicks(t, 2, [][]api.Act{{push(1), push(2), pop()}, {steal()}, {steal()}}, eight, 9),
		checkAllPicks(t, 1, [][]api.Act{{push(1), push(2), push(3)}, {steal()}, {steal()}}, four, 9),
	} {
		for i := range total {
			total[i] += c[i]
		}
	}
	for _, code := range []int{api.Fine, api.Got, api.Empty, api.Full, api.Abort} {
		if total[code] < 1000 {
			t.Errorf("code %d occurred %d times only", code, total[code])
		}
	}
}

// P11.2: a history in which a result was changed to one that it cannot have is not linear.
func TestWrongResults(t *testing.T) {
	some := mixed(6)
	for i := range 3000 {
		// Each value occurs once.
		plan := [][]api.Act{{push(1), push(2), pop(), push(3), pop()}, {steal(), steal()}, {steal()}}
		capacity := 1 + i%3
		ops := checkPlayed(t, capacity, plan, picked(some, 60))
		for j, o := range ops {
			x := slices.Clone(ops)
			if o.Code == api.Got {
				x[j].Value = 4
			} else if o.Kind == api.OpPush {
				x[j].Code = api.Got
			} else {
				x[j].Code, x[j].Value = api.Got, 4
			}
			if history.Linear(x, capacity) {
				t.Fatalf("Linear(%v, %d) = true", x, capacity)
			}
		}
	}
}

// R2 and R3: Linear does not change what it is passed, and equal calls give equal answers.
func TestLinearKeepsNothing(t *testing.T) {
	some := mixed(7)
	for range 2000 {
		ops := run(some, 1+some(api.MaxOps), 3, 40)
		change(some, &ops[0])
		before := slices.Clone(ops)
		first := history.Linear(ops, 3)
		if !slices.Equal(ops, before) {
			t.Fatalf("the argument is %v, want %v", ops, before)
		}
		for range 3 {
			if history.Linear(ops, 3) != first {
				t.Fatalf("Linear(%v, 3) is not always %t", ops, first)
			}
		}
	}
}
