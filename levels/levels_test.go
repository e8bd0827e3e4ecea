package levels_test

import (
	"fmt"
	"math"
	"slices"
	"testing"

	"worksteal/api"
	"worksteal/levels"
	"worksteal/machine"
	"worksteal/owner"
	"worksteal/steptest"
	"worksteal/thief"
)

// Contents of cells at the limits: the greatest one, and 2^63, which is the least int.
const (
	top  = math.MaxUint64
	half = 1 << 63
)

// Short names for what a step of a machine must do, and for what is put into cells before it.
type (
	step = steptest.Step
	put  = steptest.Put
)

var (
	none  = steptest.None()
	load  = steptest.Load
	store = steptest.Store
	cas   = steptest.CAS
	or    = steptest.Or
	and   = steptest.And
)

// Short names for configurations, their cells, and what they contain.
var (
	bitsOf  = steptest.BitsOf
	dequeOf = steptest.DequeOf
	cellOf  = steptest.CellOf
	has     = steptest.Has
	is      = steptest.Is
	looks   = steptest.Looks
	pushes  = steptest.Pushes
)

// sized returns a configuration with some workers and levels, whose deques have some places.
func sized(workers, levels, places int) api.Config {
	return steptest.Sized(workers, levels, 1, places)
}

// sizes returns configurations with few and with many workers, levels and places, up to the greatest ones.
func sizes() []api.Config {
	return []api.Config{sized(1, 1, 1), sized(1, 2, 3), sized(2, 3, 2), sized(3, 1, 4), sized(1, 64, 2), sized(16, 1, 64), sized(16, 64, 1)}
}

// Most ways are those of worker 1 of two workers with three levels. Its bitmap is bits, and its deques, of two places each, are low, middle and high.
var (
	home              = sized(2, 3, 2)
	bits              = bitsOf(home, 1)
	low, middle, high = dequeOf(home, 1, 0), dequeOf(home, 1, 1), dequeOf(home, 1, 2)
)

// join returns steps, or puts, as one list.
func join[T any](l ...[]T) []T { return slices.Concat(l...) }

// one returns a step as a list.
func one(s step) []step { return []step{s} }

// pops returns the steps of a Pop of one of several entries.
func pops(q api.Queue, b, t, v uint64) []step {
	return append(looks(q, b, t), store(q.Bottom, b, b-1), load(q.Top, t), load(cellOf(q, b-1), v))
}

// popsLast returns the steps of a Pop of the only entry.
func popsLast(q api.Queue, b, v uint64) []step {
	t := b - 1
	return append(looks(q, b, t), store(q.Bottom, b, t), load(q.Top, t), cas(q.Top, t, b), store(q.Bottom, t, b), load(cellOf(q, t), v))
}

// clears returns the steps of a Clear that makes a word of the bitmap of worker 1, and finds a deque empty.
func clears(old, v uint64, q api.Queue, b, t uint64) []step {
	return append([]step{and(bits, old, v)}, looks(q, b, t)...)
}

// empties returns the steps of a Pop that finds the deque of a bit of worker 1 empty and clears the bit.
func empties(old, v uint64, q api.Queue, index uint64) []step {
	return join(one(load(bits, old)), looks(q, index, index), clears(old, v, q, index, index))
}

// beyond returns the steps of a Pop that clears the bit of a level that does not exist.
func beyond(old, v uint64) []step {
	return []step{load(bits, old), none, none, and(bits, old, v), none, none}
}

// push returns the way of a Push of worker 1 through its lines.
func push(what string, puts []put, level, value, code int, steps ...[]step) steptest.Way {
	return pushIn(home, what, puts, 1, level, value, code, steps...)
}

// pushIn returns the way of a Push through its lines in an environment of a configuration.
func pushIn(c api.Config, what string, puts []put, worker, level, value, code int, steps ...[]step) steptest.Way {
	return steptest.Way{
		What:  fmt.Sprintf("Push(%d, %d, %d) of %d workers with %d levels, %s", worker, level, value, c.Workers, c.Levels, what),
		Env:   steptest.Made(c, puts...),
		Make:  func() machine.Machine { return levels.Push(worker, level, value) },
		Steps: join(steps...),
		Code:  code,
	}
}

// pop returns the way through its lines of a Pop of worker 1 that gets an entry.
func pop(what string, puts []put, value int, steps ...[]step) steptest.Way {
	return popIn(home, what, puts, 1, api.Got, value, steps...)
}

// popNone returns the way through its lines of a Pop of worker 1 that gets nothing.
func popNone(what string, puts []put, steps ...[]step) steptest.Way {
	return popIn(home, what, puts, 1, api.Empty, 0, steps...)
}

// popIn returns the way of a Pop through its lines in an environment of a configuration.
func popIn(c api.Config, what string, puts []put, worker, code, value int, steps ...[]step) steptest.Way {
	return steptest.Way{
		What:  fmt.Sprintf("Pop(%d) of %d workers with %d levels, %s", worker, c.Workers, c.Levels, what),
		Env:   steptest.Made(c, puts...),
		Make:  func() machine.Machine { return levels.Pop(worker) },
		Steps: join(steps...),
		Code:  code,
		Value: value,
	}
}

// P13.1: what is in the deque and in the bitmap. The bitmap is not touched if the deque is full.
func pushLines() []steptest.Way {
	return []steptest.Way{
		push("an empty deque", nil, 1, 7, api.Fine, pushes(middle, 0, 0, 0, 7), one(or(bits, 0, 2))),
		push("an empty deque whose bit is 1", is(bits, 2), 1, 7, api.Fine, pushes(middle, 0, 0, 0, 7), one(or(bits, 2, 2))),
		push("an empty deque beside others", is(bits, 5), 1, 7, api.Fine, pushes(middle, 0, 0, 0, 7), one(or(bits, 5, 7))),
		push("the least level", is(bits, 4), 0, 7, api.Fine, pushes(low, 0, 0, 0, 7), one(or(bits, 4, 5))),
		push("the greatest level", is(bits, 1), 2, 7, api.Fine, pushes(high, 0, 0, 0, 7), one(or(bits, 1, 5))),
		push("an entry", join(has(middle, 0, 5), is(bits, 2)), 1, 7, api.Fine, pushes(middle, 1, 0, 0, 7), one(or(bits, 2, 2))),
		push("an entry whose bit is 0", has(middle, 0, 5), 1, 7, api.Fine, pushes(middle, 1, 0, 0, 7), one(or(bits, 0, 2))),
		push("a place that was used before", join(has(middle, 0, 5, 6), has(middle, 1, 6), is(bits, 2)), 1, 7, api.Fine, pushes(middle, 2, 1, 5, 7), one(or(bits, 2, 2))),
		push("a full deque", join(has(middle, 0, 5, 6), is(bits, 2)), 1, 7, api.Full, looks(middle, 2, 0)),
		push("a full deque whose bit is 0", has(middle, 0, 5, 6), 1, 7, api.Full, looks(middle, 2, 0)),
		push("a full deque beside other bits", join(has(middle, 3, 5, 6), is(bits, top-2)), 1, 7, api.Full, looks(middle, 5, 3)),
		push("more than full", join(has(middle, 3, 5, 6, 7), is(bits, 2)), 1, 7, api.Full, looks(middle, 6, 3)),
		push("full deques of other levels", join(has(low, 0, 5, 6), has(high, 0, 5, 6)), 1, 7, api.Fine, pushes(middle, 0, 0, 0, 7), one(or(bits, 0, 2))),
		push("Top ahead of Bottom", is(middle.Top, 3), 1, 7, api.Fine, pushes(middle, 0, 3, 0, 7), one(or(bits, 0, 2))),
		push("Bottom behind 2^63", join(has(middle, half-1, 5)), 1, 7, api.Fine, pushes(middle, half, half-1, 0, 7), one(or(bits, 0, 2))),
		push("Bottom behind 2^64", has(middle, top, 5), 1, 7, api.Fine, pushes(middle, 0, top, 0, 7), one(or(bits, 0, 2))),
		push("the greatest size", is(middle.Bottom, half-1), 1, 7, api.Full, looks(middle, half-1, 0)),
		push("the least size", is(middle.Bottom, half), 1, 7, api.Fine, pushes(middle, half, 0, 0, 7), one(or(bits, 0, 2))),
		push("bits beyond the levels", is(bits, half+8), 1, 7, api.Fine, pushes(middle, 0, 0, 0, 7), one(or(bits, half+8, half+10))),
		push("all bits", is(bits, top), 1, 7, api.Fine, pushes(middle, 0, 0, 0, 7), one(or(bits, top, top))),
		push("the bitmap of the other worker", is(bits-1, top), 1, 7, api.Fine, pushes(middle, 0, 0, 0, 7), one(or(bits, 0, 2))),
	}
}

// P13.1: values of all sizes, also such that no task has.
func pushValues() []steptest.Way {
	var l []steptest.Way
	for _, x := range []struct {
		value int
		v     uint64
	}{{0, 0}, {1, 1}, {256, 256}, {-1, top}, {-2, top - 1}, {math.MaxInt, half - 1}, {math.MaxInt - 1, half - 2}, {math.MinInt, half}, {math.MinInt + 1, half + 1}} {
		l = append(l,
			push("a value", is(middle.Ring, 9), 1, x.value, api.Fine, pushes(middle, 0, 0, 9, x.v), one(or(bits, 0, 2))),
			push("a value that finds no room", has(middle, 0, 5, 6), 1, x.value, api.Full, looks(middle, 2, 0)),
			pop("a value", join(has(middle, 0, x.v), is(bits, 2)), x.value, one(load(bits, 2)), popsLast(middle, 1, x.v)),
			pop("a value above another one", join(has(middle, 0, 5, x.v), is(bits, 2)), x.value, one(load(bits, 2)), pops(middle, 2, 0, x.v)),
		)
	}
	return l
}

// P13.1: what other machines put into cells between the lines.
func pushOthers() []steptest.Way {
	set := one(or(bits, 0, 2))
	return []steptest.Way{
		push("a thief takes an entry of a full deque before line 1", has(middle, 0, 5, 6), 1, 7, api.Fine, []step{load(middle.Bottom, 2).After(middle.Top, 1), load(middle.Top, 1), store(middle.Ring, 5, 7), store(middle.Bottom, 2, 3)}, set),
		push("a thief takes an entry of a full deque before Top is loaded", has(middle, 0, 5, 6), 1, 7, api.Fine, []step{load(middle.Bottom, 2), load(middle.Top, 1).After(middle.Top, 1), store(middle.Ring, 5, 7), store(middle.Bottom, 2, 3)}, set),
		push("the deque becomes full before Top is loaded", has(middle, 1, 5), 1, 7, api.Full, []step{load(middle.Bottom, 2), load(middle.Top, 0).After(middle.Top, 0)}),
		push("a thief takes the entry before the bit is set", nil, 1, 7, api.Fine, pushes(middle, 0, 0, 0, 7), one(or(bits, 0, 2).After(middle.Top, 1))),
		push("another bit is set before line 2", nil, 1, 7, api.Fine, pushes(middle, 0, 0, 0, 7), one(or(bits, 4, 6).After(bits, 4))),
		push("the bit is set before line 2", nil, 1, 7, api.Fine, pushes(middle, 0, 0, 0, 7), one(or(bits, 2, 2).After(bits, 2))),
		push("the bit is cleared before line 2", is(bits, 3), 1, 7, api.Fine, pushes(middle, 0, 0, 0, 7), one(or(bits, 1, 3).After(bits, 1))),
		push("all bits are cleared before line 2", is(bits, top), 1, 7, api.Fine, pushes(middle, 0, 0, 0, 7), one(or(bits, 0, 2).After(bits, 0))),
		push("the bit of a full deque is cleared before it is done", join(has(middle, 0, 5, 6), is(bits, 2)), 1, 7, api.Full, []step{load(middle.Bottom, 2), load(middle.Top, 0).After(bits, 0)}),
	}
}

// P13.1: every worker and every level, on a deque that is empty and on one that is full.
func pushEverywhere(c api.Config) []steptest.Way {
	var l []steptest.Way
	for worker := range c.Workers {
		cell := bitsOf(c, worker)
		for level := range c.Levels {
			q := dequeOf(c, worker, level)
			bit := uint64(1) << level
			l = append(l,
				pushIn(c, "an empty deque", is(cell, top-bit), worker, level, 7, api.Fine, pushes(q, 0, 0, 0, 7), one(or(cell, top-bit, top))),
				pushIn(c, "a full deque", has(q, 4, make([]uint64, c.Deque)...), worker, level, 7, api.Full, looks(q, 4+uint64(c.Deque), 4)),
			)
		}
	}
	return l
}

// noNumbers returns numbers that are none from 0 to n - 1; some of them become one if they are cut off.
func noNumbers(n int) []int {
	return []int{-1, -2, -64, n, n + 1, 64, 65, 256, 1 << 16, 1 << 32, 1<<32 + 1, -1 << 32, 1 << 62, math.MaxInt, math.MaxInt - 1, math.MinInt, math.MinInt + 1}
}

// P13.1, P13.2 and R7: a worker or a level that does not exist. Each line is a step without an access; a deque without places is full and empty, and a bitmap that does not exist has no bits.
func nowhere() []steptest.Way {
	var l []steptest.Way
	full := join(is(bits, top), is(bits-1, top), has(low, 0, 5), has(middle, 0, 5), has(high, 0, 5), has(dequeOf(home, 0, 0), 0, 5))
	for _, worker := range noNumbers(home.Workers) {
		l = append(l,
			pushIn(home, "no such worker", full, worker, 1, 7, api.Full, []step{none, none}),
			pushIn(home, "no such worker and level", full, worker, 3, 7, api.Full, []step{none, none}),
			popIn(home, "no such worker", full, worker, api.Empty, 0, one(none)),
		)
	}
	for _, level := range noNumbers(home.Levels) {
		l = append(l, push("no such level", full, level, 7, api.Full, []step{none, none}))
	}
	return l
}

func TestPush(t *testing.T) { steptest.Check(t, pushLines()...) }

func TestPushOthers(t *testing.T) { steptest.Check(t, pushOthers()...) }

func TestPushEverywhere(t *testing.T) {
	for _, c := range sizes() {
		steptest.Check(t, pushEverywhere(c)...)
	}
}

func TestValues(t *testing.T) { steptest.Check(t, pushValues()...) }

func TestNowhere(t *testing.T) { steptest.Check(t, nowhere()...) }

// P13.2: what is in the bitmap and in the deques of the bits that are 1. The deques of the other bits are not looked at.
func popLines() []steptest.Way {
	all := join(has(low, 0, 5, 6), has(middle, 1, 7), has(high, 2, 8, 9))
	return []steptest.Way{
		popNone("no bit and no entry", nil, one(load(bits, 0))),
		popNone("no bit, but entries", all, one(load(bits, 0))),
		popNone("no bit, but bits of the other worker", is(bits-1, top), one(load(bits, 0))),
		pop("one entry", join(has(low, 0, 5), is(bits, 1)), 5, one(load(bits, 1)), popsLast(low, 1, 5)),
		pop("one entry behind others", join(has(middle, 3, 7), is(bits, 2)), 7, one(load(bits, 2)), popsLast(middle, 4, 7)),
		pop("two entries", join(has(low, 0, 5, 6), is(bits, 1)), 6, one(load(bits, 1)), pops(low, 2, 0, 6)),
		pop("two entries of the greatest level", join(has(high, 5, 8, 9), is(bits, 4)), 9, one(load(bits, 4)), pops(high, 7, 5, 9)),
		pop("an entry with the index 2^64 - 1", join(has(middle, top, 7), is(bits, 2)), 7, one(load(bits, 2)), popsLast(middle, 0, 7)),
		pop("entries around the index 2^63", join(has(middle, half-1, 6, 7), is(bits, 2)), 7, one(load(bits, 2)), pops(middle, half+1, half-1, 7)),
		pop("all levels", join(all, is(bits, 7)), 9, one(load(bits, 7)), pops(high, 4, 2, 9)),
		pop("two levels", join(all, is(bits, 3)), 7, one(load(bits, 3)), popsLast(middle, 2, 7)),
		pop("the outer levels", join(all, is(bits, 5)), 9, one(load(bits, 5)), pops(high, 4, 2, 9)),
		pop("the least level, though others have entries", join(all, is(bits, 1)), 6, one(load(bits, 1)), pops(low, 2, 0, 6)),
		popNone("an empty deque", is(bits, 2), empties(2, 0, middle, 0), one(load(bits, 0))),
		popNone("three empty deques", is(bits, 7), empties(7, 3, high, 0), empties(3, 1, middle, 0), empties(1, 0, low, 0), one(load(bits, 0))),
		popNone("empty deques behind entries", join(has(low, 3), has(high, top), is(bits, 5)), empties(5, 1, high, top), empties(1, 0, low, 3), one(load(bits, 0))),
		pop("an empty deque above another one", join(has(low, 0, 5), is(bits, 5)), 5, empties(5, 1, high, 0), one(load(bits, 1)), popsLast(low, 1, 5)),
		pop("two empty deques above another one", join(has(low, 0, 5, 6), is(bits, 7)), 6, empties(7, 3, high, 0), empties(3, 1, middle, 0), one(load(bits, 1)), pops(low, 2, 0, 6)),
		pop("an empty deque below another one", join(has(high, 0, 8), is(bits, 5)), 8, one(load(bits, 5)), popsLast(high, 1, 8)),
		popNone("an empty deque above one whose bit is 0", join(has(low, 0, 5), is(bits, 4)), empties(4, 0, high, 0), one(load(bits, 0))),
		popNone("Top ahead of Bottom", join(is(middle.Top, 3), is(bits, 2)), one(load(bits, 2)), looks(middle, 0, 3), clears(2, 0, middle, 0, 3), one(load(bits, 0))),
		popNone("the least size", join(is(middle.Bottom, half), is(bits, 2)), one(load(bits, 2)), looks(middle, half, 0), clears(2, 0, middle, half, 0), one(load(bits, 0))),
		pop("more entries than places", join(is(middle.Bottom, 5), is(middle.Ring, 9), is(bits, 2)), 9, one(load(bits, 2)), pops(middle, 5, 0, 9)),
	}
}

// P13.2 and R7: bits beyond the levels. A deque that does not exist is empty, and its bit is cleared like any other.
func popBeyond() []steptest.Way {
	var all []step
	for v := uint64(top); v > 7; v /= 2 {
		all = append(all, beyond(v, v/2)...)
	}
	return []steptest.Way{
		popNone("the first bit beyond the levels", is(bits, 8), beyond(8, 0), one(load(bits, 0))),
		popNone("the last bit of all", is(bits, half), beyond(half, 0), one(load(bits, 0))),
		popNone("two bits beyond the levels", is(bits, half+8), beyond(half+8, 8), beyond(8, 0), one(load(bits, 0))),
		pop("a bit beyond the levels above an entry", join(has(middle, 0, 7), is(bits, 1<<40+2)), 7, beyond(1<<40+2, 2), one(load(bits, 2)), popsLast(middle, 1, 7)),
		popNone("all bits", is(bits, top), all, empties(7, 3, high, 0), empties(3, 1, middle, 0), empties(1, 0, low, 0), one(load(bits, 0))),
		pop("all bits, and an entry", join(has(low, 0, 5), is(bits, top)), 5, all, empties(7, 3, high, 0), empties(3, 1, middle, 0), one(load(bits, 1)), popsLast(low, 1, 5)),
	}
}

// P13.2: what thieves and an owner put into cells while an entry is popped, and between lines 1 and 2. The level is the one that was loaded.
func popOtherEntries() []steptest.Way {
	entry, again := join(has(middle, 0, 7), is(bits, 2)), one(load(bits, 0))
	// missed returns the steps behind those of a Pop that a thief takes the only entry from.
	missed := func() []step { return join(clears(2, 0, middle, 1, 1), again) }
	return []steptest.Way{
		popNone("a thief takes the entry before line 2", entry, []step{load(bits, 2), load(middle.Bottom, 1).After(middle.Top, 1), load(middle.Top, 1)}, missed()),
		popNone("a thief takes the entry before Top is loaded", entry, []step{load(bits, 2), load(middle.Bottom, 1), load(middle.Top, 1).After(middle.Top, 1)}, missed()),
		popNone("a thief takes the entry before Top is loaded again", entry, []step{load(bits, 2), load(middle.Bottom, 1), load(middle.Top, 0), store(middle.Bottom, 1, 0), load(middle.Top, 1).After(middle.Top, 1), store(middle.Bottom, 0, 1)}, missed()),
		popNone("a thief takes the entry before the CAS", entry, []step{load(bits, 2), load(middle.Bottom, 1), load(middle.Top, 0), store(middle.Bottom, 1, 0), load(middle.Top, 0), cas(middle.Top, 1, 1).After(middle.Top, 1), store(middle.Bottom, 0, 1)}, missed()),
		pop("a thief takes one of two entries", join(has(middle, 0, 6, 7), is(bits, 2)), 7, []step{load(bits, 2), load(middle.Bottom, 2), load(middle.Top, 1).After(middle.Top, 1), store(middle.Bottom, 2, 1), load(middle.Top, 1), cas(middle.Top, 1, 2), store(middle.Bottom, 1, 2), load(middle.Ring+1, 7)}),
		pop("an owner pushes an entry before line 2", entry, 8, []step{load(bits, 2), load(middle.Bottom, 2).After(middle.Bottom, 2).After(middle.Ring+1, 8), load(middle.Top, 0), store(middle.Bottom, 2, 1), load(middle.Top, 0), load(middle.Ring+1, 8)}),
		pop("the bit is cleared before line 2", entry, 7, one(load(bits, 2)), []step{load(middle.Bottom, 1).After(bits, 0)}, popsLast(middle, 1, 7)[1:]),
		pop("a greater bit is set before line 2", join(entry, has(high, 0, 8)), 7, one(load(bits, 2)), []step{load(middle.Bottom, 1).After(bits, 6)}, popsLast(middle, 1, 7)[1:]),
		pop("a lesser bit is set before line 1", join(entry, has(low, 0, 5)), 7, one(load(bits, 3).After(bits, 3)), popsLast(middle, 1, 7)),
		pop("a greater bit is set before line 1", join(entry, has(high, 0, 8)), 8, one(load(bits, 6).After(bits, 6)), popsLast(high, 1, 8)),
		popNone("the bit is cleared before line 1", entry, one(load(bits, 0).After(bits, 0))),
	}
}

// P13.2: what thieves and an owner put into cells while the bit of an empty deque is cleared. Line 1 follows, whether the bit is 1 then or not.
func popOtherBits() []steptest.Way {
	bit, empty := is(bits, 2), join(one(load(bits, 2)), looks(middle, 0, 0))
	took := join(one(load(bits, 2)), popsLast(middle, 1, 7))
	// pushed returns a step behind an owner's push of 7 on the middle deque.
	pushed := func(s step) step { return s.After(middle.Ring, 7).After(middle.Bottom, 1) }
	return []steptest.Way{
		pop("an entry is pushed before the bit is cleared", bit, 7, empty, []step{pushed(and(bits, 2, 0)), load(middle.Bottom, 1), load(middle.Top, 0), or(bits, 0, 2)}, took),
		pop("an entry is pushed when the bit is cleared", bit, 7, empty, []step{and(bits, 2, 0), pushed(load(middle.Bottom, 1)), load(middle.Top, 0), or(bits, 0, 2)}, took),
		pop("an entry is pushed and its bit is set", bit, 7, empty, []step{and(bits, 2, 0), pushed(load(middle.Bottom, 1)), load(middle.Top, 0).After(bits, 2), or(bits, 2, 2)}, took),
		popNone("an entry is pushed when Bottom is loaded", bit, empty, []step{and(bits, 2, 0), load(middle.Bottom, 0), pushed(load(middle.Top, 0)), load(bits, 0)}),
		pop("an entry is pushed when Bottom is loaded, and its bit is set", bit, 7, empty, []step{and(bits, 2, 0), load(middle.Bottom, 0), pushed(load(middle.Top, 0))}, one(load(bits, 2).After(bits, 2)), popsLast(middle, 1, 7)),
		popNone("an entry is pushed and taken", bit, empty, []step{and(bits, 2, 0), pushed(load(middle.Bottom, 1)), load(middle.Top, 0), or(bits, 0, 2), load(bits, 2), load(middle.Bottom, 1), load(middle.Top, 1).After(middle.Top, 1)}, clears(2, 0, middle, 1, 1), one(load(bits, 0))),
		pop("a greater bit is set before line 3", join(bit, has(high, 0, 8)), 8, empty, []step{and(bits, 6, 4).After(bits, 6)}, looks(middle, 0, 0), one(load(bits, 4)), popsLast(high, 1, 8)),
		pop("a lesser bit is set before line 1", join(bit, has(low, 0, 5)), 5, empty, clears(2, 0, middle, 0, 0), one(load(bits, 1).After(bits, 1)), popsLast(low, 1, 5)),
		pop("a greater bit is set before line 1", join(is(bits, 3), has(low, 0, 5), has(high, 0, 8)), 8, one(load(bits, 3)), looks(middle, 0, 0), clears(3, 1, middle, 0, 0), one(load(bits, 5).After(bits, 5)), popsLast(high, 1, 8)),
		popNone("all bits are cleared before line 1", is(bits, 3), one(load(bits, 3)), looks(middle, 0, 0), clears(3, 1, middle, 0, 0), one(load(bits, 0).After(bits, 0))),
		popNone("the bit of an empty deque is set again", bit, empty, clears(2, 0, middle, 0, 0), one(load(bits, 2).After(bits, 2)), looks(middle, 0, 0), clears(2, 0, middle, 0, 0), one(load(bits, 0))),
		popNone("the bit of an empty deque is set while it is cleared", bit, empty, []step{and(bits, 2, 0), load(middle.Bottom, 0).After(bits, 2), load(middle.Top, 0)}, empties(2, 0, middle, 0), one(load(bits, 0))),
		popNone("a thief clears the bit before line 3", bit, empty, []step{and(bits, 0, 0).After(bits, 0)}, looks(middle, 0, 0), one(load(bits, 0))),
	}
}

// P13.2: every worker and every level: the highest of all levels, of which all have an entry; the deques and bits of the others stay as they are.
func popEverywhere(c api.Config) []steptest.Way {
	var l []steptest.Way
	for worker := range c.Workers {
		cell := bitsOf(c, worker)
		puts := is(bitsOf(c, (worker+1)%c.Workers), top)
		for level := range c.Levels {
			q := dequeOf(c, worker, level)
			v := uint64(100 + level)
			puts = join(puts, has(q, 3, v), is(cell, 2<<level-1))
			l = append(l, popIn(c, "as many entries as levels up to this one", puts, worker, api.Got, int(v), one(load(cell, 2<<level-1)), popsLast(q, 4, v)))
		}
	}
	return l
}

// P13.2: a worker with all levels that there can be, all of whose bits are 1, has one entry. The number of steps tells how many levels are above it.
func popSteps() []steptest.Way {
	c := sized(1, 64, 1)
	var l []steptest.Way
	cell := bitsOf(c, 0)
	for level := range c.Levels {
		q := dequeOf(c, 0, level)
		var steps []step
		for v, above := uint64(top), 63; above > level; v, above = v/2, above-1 {
			r := dequeOf(c, 0, above)
			steps = append(steps, load(cell, v), load(r.Bottom, 0), load(r.Top, 0), and(cell, v, v/2), load(r.Bottom, 0), load(r.Top, 0))
		}
		steps = append(steps, load(cell, 2<<level-1))
		l = append(l, popIn(c, fmt.Sprintf("an entry at level %d", level), join(has(q, 3, 7), is(cell, top)), 0, api.Got, 7, steps, popsLast(q, 4, 7)))
	}
	return l
}

func TestPop(t *testing.T) { steptest.Check(t, popLines()...) }

func TestPopBeyond(t *testing.T) { steptest.Check(t, popBeyond()...) }

func TestPopOthers(t *testing.T) {
	steptest.Check(t, popOtherEntries()...)
	steptest.Check(t, popOtherBits()...)
}

func TestPopEverywhere(t *testing.T) {
	for _, c := range sizes() {
		steptest.Check(t, popEverywhere(c)...)
	}
}

func TestPopSteps(t *testing.T) {
	l := popSteps()
	steptest.Check(t, l...)
	for level, w := range l {
		if want := (63-level)*(1+2+3) + 1 + 7; len(w.Steps) != want {
			t.Errorf("%s: %d steps were tested, want %d", w.What, len(w.Steps), want)
		}
	}
}

// The copy of a machine at each of its lines, within each inner machine, and of one that is done, continues independently, whichever goes on first.
func TestCopy(t *testing.T) {
	steptest.CheckCopies(t, join(pushLines(), pushOthers(), pushValues(), nowhere(), pushEverywhere(sized(2, 2, 1)))...)
	steptest.CheckCopies(t, join(popLines(), popBeyond()[:4], popOtherEntries(), popOtherBits(), popEverywhere(sized(2, 2, 1)))...)
}

// A Pop and its copies go different ways, step by step in turn, if their memories differ.
func TestCopyGoesAnotherWay(t *testing.T) {
	e, x := steptest.Made(home, join(has(middle, 0, 7), has(low, 0, 5), is(bits, 3))...), levels.Pop(1)
	steptest.CheckStep(t, "line 1", e, x, load(bits, 3), false)
	steptest.CheckStep(t, "Bottom", e, x, load(middle.Bottom, 1), false)
	f, y := e.Copy(), x.Copy()
	steptest.CheckStep(t, "Top of the copy", f, y, load(middle.Top, 1).After(middle.Top, 1), false)
	steptest.CheckStep(t, "Top of the original", e, x, load(middle.Top, 0), false)
	steptest.CheckStep(t, "line 3 of the copy", f, y, and(bits, 3, 1), false)
	g, z := f.Copy(), y.Copy()
	steptest.CheckStep(t, "the second copy", g, z, load(middle.Bottom, 2).After(middle.Bottom, 2), false)
	for _, s := range []step{store(middle.Bottom, 1, 0), load(middle.Top, 0), cas(middle.Top, 0, 1), store(middle.Bottom, 0, 1)} {
		steptest.CheckStep(t, "line 2 of the original", e, x, s, false)
	}
	steptest.CheckStep(t, "the end of the original", e, x, load(middle.Ring, 7), true)
	steptest.CheckStep(t, "the copy", f, y, load(middle.Bottom, 1), false)
	steptest.CheckStep(t, "the copy", f, y, load(middle.Top, 1), false)
	steptest.CheckStep(t, "the second copy", g, z, load(middle.Top, 1), false)
	steptest.CheckStep(t, "the second copy", g, z, or(bits, 1, 3), false)
	for i, s := range join(one(load(bits, 1)), popsLast(low, 1, 5)) {
		steptest.CheckStep(t, "the copy, line 1 again", f, y, s, i == 7)
	}
	steptest.CheckResult(t, "the second copy, when the others are done", z, 0, 0)
	for i, s := range join(one(load(bits, 3)), []step{load(middle.Bottom, 2), load(middle.Top, 1), store(middle.Bottom, 2, 1), load(middle.Top, 1), cas(middle.Top, 1, 2), store(middle.Bottom, 1, 2), load(middle.Ring+1, 0)}) {
		steptest.CheckStep(t, "the second copy, line 1 again", g, z, s, i == 7)
	}
	steptest.CheckResult(t, "the original", x, api.Got, 7)
	steptest.CheckResult(t, "the copy", y, api.Got, 5)
	steptest.CheckResult(t, "the second copy", z, api.Got, 0)
}

// A Push and its copy go different ways as well.
func TestCopyOfPush(t *testing.T) {
	e, x := steptest.Made(home), levels.Push(1, 1, 7)
	steptest.CheckStep(t, "Bottom", e, x, load(middle.Bottom, 0), false)
	f, y := e.Copy(), x.Copy()
	steptest.CheckStep(t, "Top of the copy", f, y, load(middle.Top, top-1).After(middle.Top, top-1), true)
	for _, s := range pushes(middle, 0, 0, 0, 7)[1:] {
		steptest.CheckStep(t, "line 1 of the original", e, x, s, false)
	}
	g, z := e.Copy(), x.Copy()
	steptest.CheckStep(t, "line 2 of the second copy", g, z, or(bits, 4, 6).After(bits, 4), true)
	steptest.CheckResult(t, "the original while its copies are done", x, 0, 0)
	steptest.CheckStep(t, "line 2 of the original", e, x, or(bits, 0, 2), true)
	steptest.CheckResult(t, "the original", x, api.Fine, 0)
	steptest.CheckResult(t, "the copy", y, api.Full, 0)
	steptest.CheckResult(t, "the second copy", z, api.Fine, 0)
}

// R6: a machine that is given to other environments keeps what it has loaded, and accesses the cells of these.
func TestOtherMemory(t *testing.T) {
	in := func(puts ...[]put) *machine.Env { return steptest.Made(home, join(puts...)...) }
	x := levels.Pop(1)
	steptest.CheckStep(t, "line 1", in(is(bits, 3)), x, load(bits, 3), false)
	steptest.CheckStep(t, "line 2", in(has(middle, 8), is(bits, 4)), x, load(middle.Bottom, 8), false)
	steptest.CheckStep(t, "line 2 again", in(has(middle, 9)), x, load(middle.Top, 9), false)
	steptest.CheckStep(t, "line 3", in(is(bits, top)), x, and(bits, top, top-2), false)
	steptest.CheckStep(t, "line 3 again", in(has(middle, 3)), x, load(middle.Bottom, 3), false)
	steptest.CheckStep(t, "line 3 again", in(has(middle, 2)), x, load(middle.Top, 2), false)
	steptest.CheckStep(t, "line 3 again", in(is(bits, 1)), x, or(bits, 1, 3), false)
	steptest.CheckStep(t, "line 1 again", in(), x, load(bits, 0), true)
	steptest.CheckStep(t, "when it is done", in(is(bits, 3)), x, none, true)
	steptest.CheckResult(t, "Pop", x, api.Empty, 0)

	x = levels.Push(1, 1, 7)
	steptest.CheckStep(t, "line 1", in(has(middle, 3)), x, load(middle.Bottom, 3), false)
	steptest.CheckStep(t, "line 1 again", in(has(middle, 2)), x, load(middle.Top, 2), false)
	steptest.CheckStep(t, "line 1 again", in(has(middle, 5, 8, 9)), x, store(middle.Ring+1, 8, 7), false)
	steptest.CheckStep(t, "line 1 again", in(has(middle, 5, 8, 9)), x, store(middle.Bottom, 7, 4), false)
	steptest.CheckStep(t, "line 2", in(is(bits, 4)), x, or(bits, 4, 6), true)
	steptest.CheckResult(t, "Push", x, api.Fine, 0)
}

// R6: the machines use the layout of the environment in which a line begins: an environment of another configuration has other cells, and perhaps no such worker or level.
func TestOtherLayout(t *testing.T) {
	small, large := sized(1, 2, 1), sized(4, 9, 3)
	in := func(c api.Config, puts ...put) *machine.Env { return steptest.Made(c, puts...) }
	cell, q := bitsOf(large, 1), dequeOf(large, 1, 2)
	x := levels.Pop(1)
	e := in(large, is(cell, 3)...)
	steptest.CheckStep(t, "line 1", in(home, is(bits, 5)...), x, load(bits, 5), false)
	steptest.CheckStep(t, "line 2", e, x, load(q.Bottom, 0), false)
	steptest.CheckStep(t, "line 2 again", e, x, load(q.Top, 0), false)
	e = in(home, is(bits, 6)...)
	for _, s := range clears(6, 2, high, 0, 0) {
		steptest.CheckStep(t, "line 3", e, x, s, false)
	}
	steptest.CheckStep(t, "line 1 again", in(large, is(cell, 3)...), x, load(cell, 3), false)
	e = in(small)
	for range 5 {
		steptest.CheckStep(t, "lines 2 and 3 without a deque", e, x, none, false)
	}
	steptest.CheckStep(t, "line 1 without a bitmap", e, x, none, true)
	steptest.CheckResult(t, "Pop", x, api.Empty, 0)

	x = levels.Push(1, 2, 7)
	e = in(large)
	for _, s := range pushes(q, 0, 0, 0, 7) {
		steptest.CheckStep(t, "line 1 of Push", e, x, s, false)
	}
	y := x.Copy()
	steptest.CheckStep(t, "line 2 of Push", in(home), x, or(bits, 0, 4), true)
	steptest.CheckStep(t, "line 2 of Push without a bitmap", in(small), y, none, true)
	steptest.CheckResult(t, "Push", x, api.Fine, 0)
	steptest.CheckResult(t, "Push without a bitmap", y, api.Fine, 0)
}

// R2 and R6: machines that are made by equal calls behave equally.
func TestEqualCalls(t *testing.T) {
	for _, c := range sizes()[:5] {
		e := steptest.Made(c)
		f := e.Copy()
		some := steptest.Mixed(2)
		for i := range 300 {
			worker, level := some(c.Workers+2)-1, some(c.Levels+2)-1
			if some(5) < 3 {
				steptest.CheckEqual(t, "Push", e, f, levels.Push(worker, level, i), levels.Push(worker, level, i))
			} else {
				steptest.CheckEqual(t, "Pop", e, f, levels.Pop(worker), levels.Pop(worker))
			}
		}
	}
}

// run lets a machine perform its steps, and reports an error if their number or its result is not as it must be.
func run(t *testing.T, what string, e *machine.Env, x machine.Machine, steps, code, value int) {
	t.Helper()
	if n, done := machine.Run(e, x, 1000); n != steps || !done {
		t.Errorf("%s: done is %t after %d steps, want %d steps", what, done, n, steps)
	}
	steptest.CheckResult(t, what, x, code, value)
}

// The chapter's example.
func TestExample(t *testing.T) {
	c := sized(1, 2, 2)
	e := steptest.Made(c)
	peek := func(want uint64) {
		t.Helper()
		if g := e.Memory.Peek(bitsOf(c, 0)); g != want {
			t.Errorf("the bitmap is %d, want %d", g, want)
		}
	}
	run(t, "Push of 5", e, levels.Push(0, 0, 5), 4+1, api.Fine, 0)
	run(t, "Push of 6", e, levels.Push(0, 1, 6), 4+1, api.Fine, 0)
	peek(3)
	run(t, "Pop of 6", e, levels.Pop(0), 1+7, api.Got, 6)
	peek(3)
	run(t, "Pop of 5", e, levels.Pop(0), 1+2+3+1+7, api.Got, 5)
	peek(1)
	run(t, "Pop of nothing", e, levels.Pop(0), 1+2+3+1, api.Empty, 0)
	peek(0)
	run(t, "Pop of nothing, the bitmap of which is 0", e, levels.Pop(0), 1, api.Empty, 0)
}

// Example 9 of the document: the order in which a worker takes its entries, and that in which a thief does.
func TestOwnerAndThief(t *testing.T) {
	c := sized(1, 2, 2)
	e := steptest.Made(c)
	for v, level := range []int{0, 0, 1} {
		run(t, "Push", e, levels.Push(0, level, v+1), 5, api.Fine, 0)
	}
	f := e.Copy()
	run(t, "the first Pop", e, levels.Pop(0), 1+7, api.Got, 3)
	run(t, "the second Pop", e, levels.Pop(0), 6+1+5, api.Got, 2)
	run(t, "the third Pop", e, levels.Pop(0), 1+7, api.Got, 1)
	for i, level := range []int{1, 0, 0} {
		run(t, "a Steal", f, thief.Steal(dequeOf(c, 0, level)), 4, api.Got, []int{3, 1, 2}[i])
	}
	run(t, "a Pop behind the thief", f, levels.Pop(0), 6+6+1, api.Empty, 0)
	run(t, "an owner's Push without the bit", f, owner.Push(dequeOf(c, 0, 1), 9), 4, api.Fine, 0)
	run(t, "a Pop of a worker whose bitmap is 0", f, levels.Pop(0), 1, api.Empty, 0)
}
