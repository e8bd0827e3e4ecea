package history_test

import (
	"fmt"
	"iter"
	"math"
	"math/big"
	"slices"
	"testing"

	"worksteal/api"
	"worksteal/history"
)

func push(v int) api.Act { return api.Act{Kind: api.OpPush, Value: v} }

func pop() api.Act { return api.Act{Kind: api.OpPop} }

func steal() api.Act { return api.Act{Kind: api.OpSteal} }

// pushes returns a push of machine 0 from one pick to another one; pops and steals return other operations.
func pushes(from, to, code, value int) api.Op {
	return api.Op{Kind: api.OpPush, From: from, To: to, Code: code, Value: value}
}

func pops(from, to, code, value int) api.Op {
	return api.Op{Kind: api.OpPop, From: from, To: to, Code: code, Value: value}
}

func steals(machine, from, to, code, value int) api.Op {
	return api.Op{Kind: api.OpSteal, Machine: machine, From: from, To: to, Code: code, Value: value}
}

// A game is a call of Play, and what it must return.
type game struct {
	what     string
	capacity int
	plan     [][]api.Act
	picks    []int
	want     []api.Op
}

// checkGames reports an error for each game that does not return what it must.
func checkGames(t *testing.T, games ...game) {
	t.Helper()
	for _, g := range games {
		if got := history.Play(g.capacity, g.plan, g.picks); !slices.Equal(got, g.want) {
			t.Errorf("%s: Play(%d, %v, %v) returns\n%v, want\n%v", g.what, g.capacity, g.plan, g.picks, got, g.want)
		}
	}
}

// The chapter's first example.
func TestExamplePlay(t *testing.T) {
	checkGames(t, game{"example 1", 1, [][]api.Act{{push(5), pop()}, {steal()}}, []int{},
		[]api.Op{pushes(0, 3, api.Fine, 5), pops(4, 10, api.Got, 5), steals(1, 11, 12, api.Empty, 0)}})
}

// P11.1: without acts there are no operations, whatever is picked.
func TestNothingToPlay(t *testing.T) {
	picks := []int{0, 1, -1, math.MinInt, math.MaxInt}
	for _, plan := range [][][]api.Act{nil, {}, {nil}, {{}}, {{}, nil, {}}, {{steal()}}, {{}, {push(5), pop()}}} {
		for _, capacity := range []int{math.MinInt, 0, 1, 64, math.MaxInt} {
			checkGames(t, game{"no acts", capacity, plan, nil, nil}, game{"no acts", capacity, plan, picks, nil})
		}
	}
}

// filling returns the game that fills a deque that has room for some entries, and empties it again.
func filling(capacity, room int) game {
	g := game{what: "a deque that is filled and emptied", capacity: capacity, plan: [][]api.Act{{}, {}}}
	at := 0
	add := func(a api.Act, o api.Op) {
		g.plan[o.Machine] = append(g.plan[o.Machine], a)
		g.want = append(g.want, o)
		at = o.To + 1
	}
	for i := range room {
		add(push(100+i), pushes(at, at+3, api.Fine, 100+i))
	}
	for i := range 2 {
		add(push(i), pushes(at, at+1, api.Full, i))
	}
	// Each entry is still what was pushed: no two of them share a cell.
	for i := range room {
		add(steal(), steals(1, at, at+3, api.Got, 100+i))
	}
	add(steal(), steals(1, at, at+1, api.Empty, 0))
	return g
}

// P11.1: the deque has the given capacity, 1 if it is less, and MaxDeque if it is greater.
func TestCapacity(t *testing.T) {
	for _, c := range []int{math.MinInt, -1 << 32, -3, -1, 0} {
		checkGames(t, filling(c, 1))
	}
	for c := 1; c <= api.MaxDeque; c++ {
		checkGames(t, filling(c, c))
	}
	for _, c := range []int{api.MaxDeque + 1, 100, 1000, 1<<32 + 1, math.MaxInt} {
		checkGames(t, filling(c, api.MaxDeque))
	}
}

// P11.1: the owner pushes and pops, the others steal; acts that their machine cannot perform take no picks.
func TestUnable(t *testing.T) {
	others := []api.Act{{Kind: 3, Value: 1}, {Kind: -1, Value: 2}, {Kind: math.MinInt}, {Kind: math.MaxInt, Value: 3}, {Kind: 256}, {Kind: 1 << 32}}
	owner, thief := slices.Concat(others, []api.Act{steal()}), slices.Concat(others, []api.Act{push(8), pop()})
	between := [][]api.Act{
		slices.Concat(owner, []api.Act{push(5)}, owner, owner, []api.Act{pop()}, owner),
		slices.Concat(thief, []api.Act{steal()}, thief, []api.Act{steal()}, thief),
	}
	checkGames(t,
		game{"acts of the others", 1, [][]api.Act{{steal(), push(5), {Kind: 7}}, {push(6), pop(), steal()}}, nil,
			[]api.Op{pushes(0, 3, api.Fine, 5), steals(1, 4, 7, api.Got, 5)}},
		game{"such acts alone", 1, [][]api.Act{owner, thief, thief}, []int{0, 1, 2}, nil},
		game{"such acts between others", 2, between, nil,
			[]api.Op{pushes(0, 3, api.Fine, 5), pops(4, 10, api.Got, 5), steals(1, 11, 12, api.Empty, 0), steals(1, 13, 14, api.Empty, 0)}},
		game{"such acts between others, with picks", 2, between, []int{0, 0, 0, 0, 0, 1, 1},
			[]api.Op{pushes(0, 3, api.Fine, 5), pops(4, 12, api.Got, 5), steals(1, 5, 14, api.Abort, 0), steals(1, 15, 16, api.Empty, 0)}},
		game{"each thief steals", 2, [][]api.Act{{push(5), push(6)}, {push(7), steal()}, {pop()}, {steal(), push(9)}}, nil,
			[]api.Op{pushes(0, 3, api.Fine, 5), pushes(4, 7, api.Fine, 6), steals(1, 8, 11, api.Got, 5), steals(3, 12, 15, api.Got, 6)}},
		game{"values of pops and steals", 2, [][]api.Act{{{Kind: api.OpPop, Value: 7}}, {{Kind: api.OpSteal, Value: 8}}}, nil,
			[]api.Op{pops(0, 1, api.Empty, 0), steals(1, 2, 3, api.Empty, 0)}},
	)
}

// P11.1: an element of picks denotes the machine with its number modulo the number of machines, from 0 on.
func TestPickModulo(t *testing.T) {
	picks := []int{0, 1, -1, 2, -2, 7, -7, 999, math.MaxInt, math.MaxInt - 1, math.MaxInt - 2, math.MinInt, math.MinInt + 1, math.MinInt + 2, 1 << 32, -1 << 32, 1<<32 + 1}
	for n := 1; n <= 7; n++ {
		plan := slices.Repeat([][]api.Act{{steal()}}, n)
		plan[0] = []api.Act{pop()}
		for _, p := range picks {
			want := int(new(big.Int).Mod(big.NewInt(int64(p)), big.NewInt(int64(n))).Int64())
			// Two picks are an operation on an empty deque.
			got := history.Play(1, plan, []int{p, p})
			if len(got) != n || got[0].Machine != want || got[0].From != 0 || got[0].To != 1 {
				t.Errorf("with %d machines, two picks %d lead to %v, want machine %d first", n, p, got, want)
			}
		}
	}
}

// P11.1: each pick counts, also that of a machine that has no acts left, and the steps behind the last one are further picks.
func TestPickNumbers(t *testing.T) {
	plan := [][]api.Act{{push(5)}, {steal()}, {}}
	long := slices.Concat(slices.Repeat([]int{0}, 10), slices.Repeat([]int{2}, 3), slices.Repeat([]int{1}, 10))
	checkGames(t,
		game{"no picks", 1, plan, nil, []api.Op{pushes(0, 3, api.Fine, 5), steals(1, 4, 7, api.Got, 5)}},
		game{"picks of a machine that has no acts", 1, plan, []int{2, 5, -1, 0, 2}, []api.Op{pushes(3, 7, api.Fine, 5), steals(1, 8, 11, api.Got, 5)}},
		game{"picks of a machine that has no acts left", 1, plan, []int{0, 0, 0, 0, 0, 0, 3, 1}, []api.Op{pushes(0, 3, api.Fine, 5), steals(1, 7, 10, api.Got, 5)}},
		game{"more picks than steps", 1, plan, long, []api.Op{pushes(0, 3, api.Fine, 5), steals(1, 13, 16, api.Got, 5)}},
		game{"as many picks as steps", 1, plan, []int{0, 0, 0, 0, 1, 1, 1, 1}, []api.Op{pushes(0, 3, api.Fine, 5), steals(1, 4, 7, api.Got, 5)}},
		game{"an operation across the last pick", 1, plan, []int{1, 0, 0, 0, 0}, []api.Op{pushes(1, 4, api.Fine, 5), steals(1, 0, 7, api.Got, 5)}},
		game{"two operations across the last pick", 1, plan, []int{1, 0}, []api.Op{pushes(1, 4, api.Fine, 5), steals(1, 0, 7, api.Got, 5)}},
		game{"the machines in order behind the last pick", 3, [][]api.Act{{push(5), push(6), pop()}, {steal(), steal()}, {steal()}}, []int{2, 2, 1},
			[]api.Op{steals(2, 0, 1, api.Empty, 0), pushes(3, 6, api.Fine, 5), pushes(7, 10, api.Fine, 6), pops(11, 15, api.Got, 6), steals(1, 2, 18, api.Got, 5), steals(1, 19, 20, api.Empty, 0)}},
	)
}

// P11.1: operations are in the order in which they were done, whenever they began.
func TestOrder(t *testing.T) {
	plan := [][]api.Act{{push(5)}, {steal()}, {steal()}}
	four := []int{0, 0, 0, 0}
	checkGames(t,
		game{"the first one that begins is done first", 2, plan, append(four, 0, 1, 2, -1, 1, 4, 1, 2, 2, 2),
			[]api.Op{pushes(0, 3, api.Fine, 5), steals(1, 5, 10, api.Got, 5), steals(2, 6, 12, api.Abort, 0)}},
		game{"the first one that begins is done last", 2, plan, append(four, 2, 2, 2, 1, 1, 1, 1, 2),
			[]api.Op{pushes(0, 3, api.Fine, 5), steals(1, 7, 10, api.Got, 5), steals(2, 4, 11, api.Abort, 0)}},
		game{"one that begins before all others is done behind them", 2, plan, []int{2, 0, 0, 0, 0, 1, 1, 1, 1, 2, 2, 2},
			[]api.Op{pushes(1, 4, api.Fine, 5), steals(1, 5, 8, api.Got, 5), steals(2, 0, 11, api.Abort, 0)}},
		game{"several operations of one machine during one of another one", 2, [][]api.Act{{push(5), pop(), push(6)}, {steal()}}, append([]int{1, 0, 0, 0, 0, 1}, four...),
			[]api.Op{pushes(1, 4, api.Fine, 5), pops(6, 12, api.Got, 5), pushes(13, 16, api.Fine, 6), steals(1, 0, 18, api.Abort, 0)}},
	)
}

// P11.1: the Value of a push is what was pushed, whether there is room or not; that of a pop or steal what was taken, and 0 otherwise.
func TestValues(t *testing.T) {
	for _, v := range []int{0, 1, -1, -5, 1 << 40, -1 << 40, math.MaxInt, math.MinInt} {
		checkGames(t,
			game{"popped", 1, [][]api.Act{{push(v), push(v), push(3), pop(), pop()}}, nil,
				[]api.Op{pushes(0, 3, api.Fine, v), pushes(4, 5, api.Full, v), pushes(6, 7, api.Full, 3), pops(8, 14, api.Got, v), pops(15, 16, api.Empty, 0)}},
			game{"popped from several ones", 3, [][]api.Act{{push(3), push(v), pop()}}, nil,
				[]api.Op{pushes(0, 3, api.Fine, 3), pushes(4, 7, api.Fine, v), pops(8, 12, api.Got, v)}},
			game{"stolen", 2, [][]api.Act{{push(v), push(4)}, {steal(), steal(), steal()}}, nil,
				[]api.Op{pushes(0, 3, api.Fine, v), pushes(4, 7, api.Fine, 4), steals(1, 8, 11, api.Got, v), steals(1, 12, 15, api.Got, 4), steals(1, 16, 17, api.Empty, 0)}},
			game{"stolen by another thief", 1, [][]api.Act{{push(v)}, {steal()}, {steal()}}, []int{0, 0, 0, 0, 1, 1, 1, 2, 2, 2, 2},
				[]api.Op{pushes(0, 3, api.Fine, v), steals(2, 7, 10, api.Got, v), steals(1, 4, 11, api.Abort, 0)}},
			game{"stolen from a pop", 1, [][]api.Act{{push(v), pop()}, {steal()}}, []int{0, 0, 0, 0, 0, 0, 0, 0, 1, 1},
				// The pop has lowered Bottom, so that the thief sees an empty deque.
				[]api.Op{pushes(0, 3, api.Fine, v), steals(1, 8, 9, api.Empty, 0), pops(4, 12, api.Got, v)}},
			game{"stolen from a pop that is slower", 1, [][]api.Act{{push(v), pop()}, {steal()}}, []int{0, 0, 0, 0, 1, 1, 0, 0, 0, 0, 1, 1},
				[]api.Op{pushes(0, 3, api.Fine, v), steals(1, 4, 11, api.Got, v), pops(6, 13, api.Empty, 0)}},
		)
	}
}

// A deque is a deque without machines. What acts on it is a plain function for each operation, which pauses between two of its lines.
type deque struct {
	ring        []int
	top, bottom int
}

// at returns the place of the entry with an index.
func (d *deque) at(i int) *int { return &d.ring[i%len(d.ring)] }

// push returns the code of Push.
func (d *deque) push(v int, pause func()) int {
	b := d.bottom
	pause()
	if b-d.top >= len(d.ring) {
		return api.Full
	}
	pause()
	*d.at(b) = v
	pause()
	d.bottom = b + 1
	return api.Fine
}

// pop returns the code and the value of Pop.
func (d *deque) pop(pause func()) (code, value int) {
	b := d.bottom
	pause()
	if b-d.top <= 0 {
		return api.Empty, 0
	}
	pause()
	d.bottom = b - 1
	pause()
	t := d.top
	pause()
	if b-1 > t {
		return api.Got, *d.at(b - 1)
	}
	got := false
	if b-1 == t {
		got = d.top == t
		if got {
			d.top = t + 1
		}
		pause()
	}
	d.bottom = b
	if !got {
		return api.Empty, 0
	}
	pause()
	return api.Got, *d.at(b - 1)
}

// steal returns the code and the value of Steal.
func (d *deque) steal(pause func()) (code, value int) {
	t := d.top
	pause()
	if d.bottom-t <= 0 {
		return api.Empty, 0
	}
	pause()
	v := *d.at(t)
	pause()
	if d.top != t {
		return api.Abort, 0
	}
	d.top = t + 1
	return api.Got, v
}

// act returns the operation of an act, without its picks, and whether the machine with a number can perform it.
func (d *deque) act(number int, a api.Act, pause func()) (o api.Op, ok bool) {
	o = api.Op{Kind: a.Kind, Machine: number}
	switch {
	case a.Kind == api.OpPush && number == 0:
		o.Code, o.Value = d.push(a.Value, pause), a.Value
	case a.Kind == api.OpPop && number == 0:
		o.Code, o.Value = d.pop(pause)
	case a.Kind == api.OpSteal && number != 0:
		o.Code, o.Value = d.steal(pause)
	default:
		return o, false
	}
	return o, true
}

// model returns what Play must return.
func model(capacity int, plan [][]api.Act, picks []int) []api.Op {
	d := &deque{ring: make([]int, min(max(capacity, 1), api.MaxDeque))}
	var ops []api.Op
	now := 0
	var nexts []func() (struct{}, bool)
	for i, acts := range plan {
		next, stop := iter.Pull(func(yield func(struct{}) bool) {
			pause := func() { yield(struct{}{}) }
			for _, a := range acts {
				from := now
				if o, ok := d.act(i, a, pause); ok {
					o.From, o.To = from, now
					ops = append(ops, o)
					pause()
				}
			}
		})
		defer stop()
		nexts = append(nexts, next)
	}
	for _, p := range picks {
		if n := len(nexts); n > 0 {
			nexts[(p%n+n)%n]()
		}
		now++
	}
	for _, next := range nexts {
		for _, ok := next(); ok; _, ok = next() {
			now++
		}
	}
	return ops
}

// mixed returns a function that returns numbers in a fixed order that looks like none.
func mixed(x uint64) func(n int) int {
	return func(n int) int {
		x = x*6364136223846793005 + 1442695040888963407
		return int(x>>33) % n
	}
}

// planned returns a plan for a number of machines with at most a number of acts each, now and then one that its machine cannot perform.
func planned(some func(n int) int, machines, acts int) [][]api.Act {
	plan := make([][]api.Act, machines)
	for i := range plan {
		for range some(acts + 1) {
			a := api.Act{Kind: api.OpSteal, Value: some(9) - 4}
			if i == 0 {
				a.Kind = []int{api.OpPush, api.OpPush, api.OpPop}[some(3)]
			}
			if some(12) == 0 {
				a.Kind = some(6) - 1
			}
			plan[i] = append(plan[i], a)
		}
	}
	return plan
}

// picked returns a list of picks: some runs of one machine, some elements that are negative or large.
func picked(some func(n int) int, most int) []int {
	var picks []int
	for n := some(most + 1); len(picks) < n; {
		p := some(2000) - 1000
		if some(20) == 0 {
			p = []int{math.MinInt, math.MaxInt, math.MinInt + 1, math.MaxInt - 1}[some(4)]
		}
		picks = append(picks, slices.Repeat([]int{p}, 1+some(4)*some(2))...)
	}
	return picks
}

// P11.1: for plans, picks and capacities of all kinds, Play does what the model does. Each code of each kind occurs.
func TestModel(t *testing.T) {
	some := mixed(1)
	seen := map[[2]int]int{}
	for range 20000 {
		capacity := some(7) - 1
		plan := planned(some, some(6), 1+some(9))
		picks := picked(some, 80)
		got, want := history.Play(capacity, plan, picks), model(capacity, plan, picks)
		if !slices.Equal(got, want) {
			t.Fatalf("Play(%d, %v, %v) returns\n%v, want\n%v", capacity, plan, picks, got, want)
		}
		for _, o := range want {
			seen[[2]int{o.Kind, o.Code}]++
		}
	}
	for _, x := range [][2]int{{api.OpPush, api.Fine}, {api.OpPush, api.Full}, {api.OpPop, api.Got}, {api.OpPop, api.Empty}, {api.OpSteal, api.Got}, {api.OpSteal, api.Empty}, {api.OpSteal, api.Abort}} {
		if seen[x] < 100 {
			t.Errorf("operations of kind %d with code %d occurred %d times only", x[0], x[1], seen[x])
		}
	}
}

// P11.1: a plan with more machines, acts and picks than a test names otherwise.
func TestLong(t *testing.T) {
	some := mixed(2)
	for _, capacity := range []int{1, 3, 64} {
		plan := planned(some, 300, 40)
		plan[0] = slices.Repeat([]api.Act{push(1), push(2), push(3), pop(), push(4)}, 400)
		picks := picked(some, 100000)
		if got, want := history.Play(capacity, plan, picks), model(capacity, plan, picks); !slices.Equal(got, want) {
			t.Errorf("with capacity %d, %d operations differ from the %d that are wanted", capacity, len(got), len(want))
		}
	}
}

// R2 and R3: Play does not change what it is passed, returns equal lists for equal calls, and these share no memory.
func TestPlayKeepsNothing(t *testing.T) {
	plan := [][]api.Act{{steal(), push(5), push(6), pop()}, {pop(), steal(), steal()}, nil}
	picks := []int{0, 0, 0, 0, 1, -2, 1, 5, math.MinInt}
	before := fmt.Sprint(plan, picks)
	first := history.Play(2, plan, picks)
	second := history.Play(2, plan, picks)
	if g := fmt.Sprint(plan, picks); g != before {
		t.Errorf("the arguments are %s, want %s", g, before)
	}
	want := slices.Clone(first)
	if !slices.Equal(second, want) {
		t.Errorf("the second call returns %v, want %v", second, want)
	}
	clear(first)
	for i := range plan {
		clear(plan[i])
	}
	clear(picks)
	if !slices.Equal(second, want) {
		t.Errorf("a result became %v, want %v", second, want)
	}
	if len(want) != 5 {
		t.Errorf("%d operations, want 5", len(want))
	}
}
