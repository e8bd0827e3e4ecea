package owner_test

import (
	"fmt"
	"math"
	"math/big"
	"slices"
	"testing"

	"worksteal/api"
	"worksteal/config"
	"worksteal/machine"
	"worksteal/owner"
	"worksteal/steptest"
)

// Contents of cells at the limits: the greatest one, and 2^63, which is the least int.
const (
	top  = math.MaxUint64
	half = 1 << 63
)

// A step is what a step of a machine must do. The tables of ways below are written with these short names.
type step = steptest.Step

var (
	none  = steptest.None()
	load  = steptest.Load
	store = steptest.Store
	cas   = steptest.CAS
)

// A way is a way of a machine through its lines: the cells at first, the deque, what is pushed, what the steps must do, and the result.
type way struct {
	what        string
	cells       []uint64
	q           api.Queue
	push        bool
	entry       int
	steps       []step
	code, value int
}

// make returns the machine of a way.
func (w way) make() machine.Machine {
	if w.push {
		return owner.Push(w.q, w.entry)
	}
	return owner.Pop(w.q)
}

// line returns a deque with a capacity whose cells begin with Top, Bottom and the ring.
func line(capacity int) api.Queue { return api.Queue{Top: 0, Bottom: 1, Ring: 2, Cap: capacity} }

// whole returns a way as steptest plays it.
func (w way) whole() steptest.Way {
	return steptest.Way{What: w.what, Cells: w.cells, Make: w.make, Steps: w.steps, Code: w.code, Value: w.value}
}

// checkWays checks ways from their first to their last step.
func checkWays(t *testing.T, ways []way) {
	t.Helper()
	for _, w := range ways {
		steptest.Check(t, w.whole())
	}
}

// pushes returns ways as those of Push, with names that say so.
func pushes(ways ...way) []way {
	for i := range ways {
		ways[i].what, ways[i].push = "Push on "+ways[i].what, true
	}
	return ways
}

// pops returns ways as those of Pop.
func pops(ways ...way) []way {
	for i := range ways {
		ways[i].what = "Pop of " + ways[i].what
	}
	return ways
}

// pushLines returns the ways of Push on deques of all sizes and capacities.
func pushLines() []way {
	return pushes(
		way{what: "an empty deque", cells: []uint64{0, 0, 0, 0}, q: line(2), entry: 5, steps: []step{load(1, 0), load(0, 0), store(2, 0, 5), store(1, 0, 1)}},
		way{what: "one entry of three", cells: []uint64{0, 1, 5, 0, 0}, q: line(3), entry: 6, steps: []step{load(1, 1), load(0, 0), store(3, 0, 6), store(1, 1, 2)}},
		way{what: "two entries of three", cells: []uint64{0, 2, 5, 6, 0}, q: line(3), entry: 7, steps: []step{load(1, 2), load(0, 0), store(4, 0, 7), store(1, 2, 3)}},
		way{what: "a full deque", cells: []uint64{0, 3, 5, 6, 7}, q: line(3), entry: 8, steps: []step{load(1, 3), load(0, 0)}, code: api.Full},
		way{what: "a deque with too many entries", cells: []uint64{0, 9, 5, 6, 7}, q: line(3), entry: 8, steps: []step{load(1, 9), load(0, 0)}, code: api.Full},
		way{what: "a deque of other cells", cells: []uint64{4, 40, 50, 60, 0, 4}, q: api.Queue{Top: 0, Bottom: 5, Ring: 1, Cap: 4}, entry: 9, steps: []step{load(5, 4), load(0, 4), store(1, 40, 9), store(5, 4, 5)}},
		way{what: "a deque whose cells are in another order", cells: []uint64{40, 50, 9, 8, 1}, q: api.Queue{Top: 3, Bottom: 2, Ring: 0, Cap: 2}, entry: 7, steps: []step{load(2, 9), load(3, 8), store(1, 50, 7), store(2, 9, 10)}},

		way{what: "an empty deque of one place", cells: []uint64{7, 7, 3}, q: line(1), entry: 9, steps: []step{load(1, 7), load(0, 7), store(2, 3, 9), store(1, 7, 8)}},
		way{what: "a full deque of one place", cells: []uint64{7, 8, 3}, q: line(1), entry: 9, steps: []step{load(1, 8), load(0, 7)}, code: api.Full},
		way{what: "an empty deque of no place", cells: []uint64{4, 4, 3}, q: line(0), entry: 9, steps: []step{load(1, 4), load(0, 4)}, code: api.Full},
		way{what: "a negative size and no place", cells: []uint64{5, 4, 3}, q: line(0), entry: 9, steps: []step{load(1, 4), load(0, 5), none, store(1, 4, 5)}},
		way{what: "a negative size and an equal capacity", cells: []uint64{6, 4, 3}, q: line(-2), entry: 9, steps: []step{load(1, 4), load(0, 6)}, code: api.Full},
		way{what: "a negative size and a greater capacity", cells: []uint64{7, 4, 3}, q: line(-2), entry: 9, steps: []step{load(1, 4), load(0, 7), none, store(1, 4, 5)}},
		way{what: "an empty deque of a negative capacity", cells: []uint64{0, 0, 3}, q: line(-1), entry: 9, steps: []step{load(1, 0), load(0, 0)}, code: api.Full},
		way{what: "the least size and the least capacity", cells: []uint64{half, 0, 3}, q: line(math.MinInt), entry: 9, steps: []step{load(1, 0), load(0, half)}, code: api.Full},
		way{what: "the least size and a greater capacity", cells: []uint64{half, 0, 3}, q: line(math.MinInt + 1), entry: 9, steps: []step{load(1, 0), load(0, half), none, store(1, 0, 1)}},
		way{what: "the greatest size and the greatest capacity", cells: []uint64{0, half - 1, 3}, q: line(math.MaxInt), entry: 9, steps: []step{load(1, half-1), load(0, 0)}, code: api.Full},
		way{what: "a great size and the greatest capacity", cells: []uint64{1, half - 1, 3}, q: line(math.MaxInt), entry: 9, steps: []step{load(1, half-1), load(0, 1), store(2, 3, 9), store(1, half-1, half)}},
		way{what: "a ring beyond the greatest int", cells: []uint64{1, half - 2, 3}, q: line(math.MaxInt), entry: 9, steps: []step{load(1, half-2), load(0, 1), none, store(1, half-2, half-1)}},
	)
}

// pushIndices returns the ways of Push with indices that begin anywhere.
func pushIndices() []way {
	return pushes(
		way{what: "an empty deque at 4", cells: []uint64{4, 4, 1, 2, 3}, q: line(3), entry: 9, steps: []step{load(1, 4), load(0, 4), store(3, 2, 9), store(1, 4, 5)}},
		way{what: "the end of the ring", cells: []uint64{3, 5, 1, 2, 3}, q: line(3), entry: 9, steps: []step{load(1, 5), load(0, 3), store(4, 3, 9), store(1, 5, 6)}},
		way{what: "the beginning of the ring", cells: []uint64{4, 6, 1, 2, 3}, q: line(3), entry: 9, steps: []step{load(1, 6), load(0, 4), store(2, 1, 9), store(1, 6, 7)}},
		way{what: "a full deque at 4", cells: []uint64{4, 7, 1, 2, 3}, q: line(3), entry: 9, steps: []step{load(1, 7), load(0, 4)}, code: api.Full},
		way{what: "a size of -2", cells: []uint64{7, 5, 1, 2, 3}, q: line(3), entry: 9, steps: []step{load(1, 5), load(0, 7), store(4, 3, 9), store(1, 5, 6)}},
		// 2^63 is 2 more than a multiple of 3.
		way{what: "an entry at 2^63 - 1", cells: []uint64{half - 1, half, 1, 2, 3}, q: line(3), entry: 9, steps: []step{load(1, half), load(0, half-1), store(4, 3, 9), store(1, half, half+1)}},
		way{what: "entries around 2^63", cells: []uint64{half - 1, half + 1, 1, 2, 3}, q: line(3), entry: 9, steps: []step{load(1, half+1), load(0, half-1), store(2, 1, 9), store(1, half+1, half+2)}},
		way{what: "a full deque around 2^63", cells: []uint64{half - 1, half + 2, 1, 2, 3}, q: line(3), entry: 9, steps: []step{load(1, half+2), load(0, half-1)}, code: api.Full},
		way{what: "an index that becomes 2^63", cells: []uint64{half - 1, half - 1, 1, 2, 3}, q: line(3), entry: 9, steps: []step{load(1, half-1), load(0, half-1), store(3, 2, 9), store(1, half-1, half)}},
		way{what: "a size of 2^63, which is the least one", cells: []uint64{0, half, 1, 2, 3}, q: line(3), entry: 9, steps: []step{load(1, half), load(0, 0), store(4, 3, 9), store(1, half, half+1)}},
		way{what: "a size of 2^63 - 1, which is the greatest one", cells: []uint64{0, half - 1, 1, 2, 3}, q: line(3), entry: 9, steps: []step{load(1, half-1), load(0, 0)}, code: api.Full},
		// 2^64 - 1 is a multiple of 3, and 3 more than a multiple of 4.
		way{what: "the last index of a word", cells: []uint64{top - 1, top, 1, 2, 3, 4}, q: line(4), entry: 9, steps: []step{load(1, top), load(0, top-1), store(5, 4, 9), store(1, top, 0)}},
		way{what: "the last index of a word, in another ring", cells: []uint64{top, top, 1, 2, 3}, q: line(3), entry: 9, steps: []step{load(1, top), load(0, top), store(2, 1, 9), store(1, top, 0)}},
		way{what: "entries around 2^64", cells: []uint64{top, 1, 1, 2, 3}, q: line(3), entry: 9, steps: []step{load(1, 1), load(0, top), store(3, 2, 9), store(1, 1, 2)}},
		way{what: "a full deque around 2^64", cells: []uint64{top, 2, 1, 2, 3}, q: line(3), entry: 9, steps: []step{load(1, 2), load(0, top)}, code: api.Full},
		way{what: "a size of -1 around 2^64", cells: []uint64{0, top, 1, 2, 3, 4}, q: line(4), entry: 9, steps: []step{load(1, top), load(0, 0), store(5, 4, 9), store(1, top, 0)}},
	)
}

// pushCells returns the ways of Push on deques whose cells do not exist or coincide.
func pushCells() []way {
	return pushes(
		way{what: "a deque without cells and places", cells: []uint64{1, 2}, q: api.Queue{Top: -1, Bottom: -1, Ring: -1}, entry: 9, steps: []step{none, none}, code: api.Full},
		way{what: "a deque without cells", cells: []uint64{1, 2}, q: api.Queue{Top: -1, Bottom: -1, Ring: -1, Cap: 1}, entry: 9, steps: []step{none, none, none, none}},
		way{what: "a deque without a memory", cells: nil, q: line(2), entry: 9, steps: []step{none, none, none, none}},
		way{what: "a deque at the least int", cells: []uint64{1, 2}, q: api.Queue{Top: math.MinInt, Bottom: math.MinInt, Ring: math.MinInt, Cap: 3}, entry: 9, steps: []step{none, none, none, none}},
		way{what: "a deque at the greatest int", cells: []uint64{1, 2}, q: api.Queue{Top: math.MaxInt, Bottom: math.MaxInt, Ring: math.MaxInt, Cap: 3}, entry: 9, steps: []step{none, none, none, none}},
		way{what: "a deque without Top", cells: []uint64{0, 1, 5, 6}, q: api.Queue{Top: 4, Bottom: 1, Ring: 2, Cap: 2}, entry: 9, steps: []step{load(1, 1), none, store(3, 6, 9), store(1, 1, 2)}},
		way{what: "a full deque without Top", cells: []uint64{2, 2, 5, 6}, q: api.Queue{Top: -3, Bottom: 1, Ring: 2, Cap: 2}, entry: 9, steps: []step{load(1, 2), none}, code: api.Full},
		way{what: "a deque without Bottom", cells: []uint64{1, 1, 5, 6}, q: api.Queue{Top: 0, Bottom: 4, Ring: 2, Cap: 2}, entry: 9, steps: []step{none, load(0, 1), store(2, 5, 9), none}},
		way{what: "a full deque without Bottom", cells: []uint64{top - 1, 1, 5, 6}, q: api.Queue{Top: 0, Bottom: -1, Ring: 2, Cap: 2}, entry: 9, steps: []step{none, load(0, top-1)}, code: api.Full},
		way{what: "a deque without a ring", cells: []uint64{0, 1, 5, 6}, q: api.Queue{Top: 0, Bottom: 1, Ring: 4, Cap: 2}, entry: 9, steps: []step{load(1, 1), load(0, 0), none, store(1, 1, 2)}},
		way{what: "the last cell", cells: []uint64{0, 0, 5, 6}, q: api.Queue{Top: 0, Bottom: 1, Ring: 3, Cap: 2}, entry: 9, steps: []step{load(1, 0), load(0, 0), store(3, 6, 9), store(1, 0, 1)}},
		way{what: "the place behind the last cell", cells: []uint64{0, 1, 5, 6}, q: api.Queue{Top: 0, Bottom: 1, Ring: 3, Cap: 2}, entry: 9, steps: []step{load(1, 1), load(0, 0), none, store(1, 1, 2)}},
		way{what: "a ring at a negative cell", cells: []uint64{3, 4, 5, 6}, q: api.Queue{Top: 0, Bottom: 1, Ring: -2, Cap: 9}, entry: 9, steps: []step{load(1, 4), load(0, 3), store(2, 5, 9), store(1, 4, 5)}},
		way{what: "a negative place of this ring", cells: []uint64{1, 1, 5, 6}, q: api.Queue{Top: 0, Bottom: 1, Ring: -2, Cap: 9}, entry: 9, steps: []step{load(1, 1), load(0, 1), none, store(1, 1, 2)}},
		way{what: "a deque whose Bottom is its Top", cells: []uint64{5, 0, 3}, q: api.Queue{Top: 0, Bottom: 0, Ring: 1, Cap: 2}, entry: 9, steps: []step{load(0, 5), load(0, 5), store(2, 3, 9), store(0, 5, 6)}},
		way{what: "a deque whose ring is its Bottom", cells: []uint64{4, 4}, q: api.Queue{Top: 0, Bottom: 1, Ring: 1, Cap: 2}, entry: 9, steps: []step{load(1, 4), load(0, 4), store(1, 4, 9), store(1, 9, 5)}},
	)
}

// pushValues returns the ways of Push with values of all kinds.
func pushValues() []way {
	var l []way
	for _, x := range []struct {
		entry int
		cell  uint64
	}{
		{0, 0}, {1, 1}, {-1, top}, {-2, top - 1}, {256, 256}, {math.MaxInt, half - 1}, {math.MinInt, half}, {math.MinInt + 1, half + 1},
	} {
		l = append(l, way{what: fmt.Sprintf("an empty deque, of %d", x.entry), cells: []uint64{0, 0, 70, 80}, q: line(2), entry: x.entry, steps: []step{load(1, 0), load(0, 0), store(2, 70, x.cell), store(1, 0, 1)}})
	}
	return pushes(l...)
}

// pushOthers returns the ways of Push while another machine changes the cells. The lines that load a cell see what it contains then, and the others go on with what was loaded.
func pushOthers() []way {
	return pushes(
		way{what: "a deque while Bottom changes before line 1", cells: []uint64{0, 0, 70, 80}, q: line(2), entry: 9, steps: []step{load(1, 1).After(1, 1), load(0, 0), store(3, 80, 9), store(1, 1, 2)}},
		way{what: "a deque while Bottom changes before line 2", cells: []uint64{0, 0, 70, 80}, q: line(2), entry: 9, steps: []step{load(1, 0), load(0, 0).After(1, 2), store(2, 70, 9), store(1, 2, 1)}},
		way{what: "a full deque while Bottom changes before line 2", cells: []uint64{0, 2, 70, 80}, q: line(2), entry: 9, steps: []step{load(1, 2), load(0, 0).After(1, 0)}, code: api.Full},
		way{what: "a deque while Bottom changes before line 3", cells: []uint64{0, 0, 70, 80}, q: line(2), entry: 9, steps: []step{load(1, 0), load(0, 0), store(2, 70, 9).After(1, 1), store(1, 1, 1)}},
		way{what: "a deque while Bottom changes before line 4", cells: []uint64{0, 0, 70, 80}, q: line(2), entry: 9, steps: []step{load(1, 0), load(0, 0), store(2, 70, 9), store(1, 50, 1).After(1, 50)}},
		way{what: "a deque while Top changes before line 1", cells: []uint64{0, 2, 70, 80}, q: line(2), entry: 9, steps: []step{load(1, 2).After(0, 1), load(0, 1), store(2, 70, 9), store(1, 2, 3)}},
		way{what: "a deque that is full no more before line 2", cells: []uint64{0, 2, 70, 80}, q: line(2), entry: 9, steps: []step{load(1, 2), load(0, 1).After(0, 1), store(2, 70, 9), store(1, 2, 3)}},
		way{what: "a deque that becomes full before line 2", cells: []uint64{1, 2, 70, 80}, q: line(2), entry: 9, steps: []step{load(1, 2), load(0, 0).After(0, 0)}, code: api.Full},
		way{what: "a deque that becomes full before line 3", cells: []uint64{0, 1, 70, 80}, q: line(2), entry: 9, steps: []step{load(1, 1), load(0, 0), store(3, 80, 9).After(0, top), store(1, 1, 2).After(0, 5)}},
		way{what: "a deque while its ring changes before line 3", cells: []uint64{0, 1, 70, 80}, q: line(2), entry: 9, steps: []step{load(1, 1), load(0, 0), store(3, 81, 9).After(3, 81), store(1, 1, 2)}},
		way{what: "a deque while its ring changes before line 4", cells: []uint64{0, 1, 70, 80}, q: line(2), entry: 9, steps: []step{load(1, 1), load(0, 0), store(3, 80, 9), store(1, 1, 2).After(3, 81)}},
		way{what: "a deque whose Bottom is its Top, which changes", cells: []uint64{5, 0, 3}, q: api.Queue{Top: 0, Bottom: 0, Ring: 1, Cap: 2}, entry: 9, steps: []step{load(0, 5), load(0, 3).After(0, 3)}, code: api.Full},
	)
}

// P9.1: the lines of Push on deques of all sizes and capacities.
func TestPush(t *testing.T) { checkWays(t, pushLines()) }

// P9.1: indices that begin anywhere, and a size that is a difference modulo 2^64.
func TestPushIndices(t *testing.T) { checkWays(t, pushIndices()) }

// P9.1 and R7: cells that do not exist or coincide.
func TestPushCells(t *testing.T) { checkWays(t, pushCells()) }

// P9.1: values of all kinds.
func TestPushValues(t *testing.T) { checkWays(t, pushValues()) }

// P9.1: what another machine changes between two lines.
func TestPushOthers(t *testing.T) { checkWays(t, pushOthers()) }

// popLines returns all ways of Pop through its lines, on deques of all sizes and capacities.
func popLines() []way {
	return pops(
		way{what: "an empty deque", cells: []uint64{0, 0, 5, 6}, q: line(2), steps: []step{load(1, 0), load(0, 0)}, code: api.Empty},
		way{what: "a size of -1", cells: []uint64{5, 4, 5, 6}, q: line(2), steps: []step{load(1, 4), load(0, 5)}, code: api.Empty},
		way{what: "the least size", cells: []uint64{0, half, 5, 6}, q: line(2), steps: []step{load(1, half), load(0, 0)}, code: api.Empty},
		way{what: "two entries, by line 5", cells: []uint64{0, 2, 5, 6}, q: line(2), steps: []step{load(1, 2), load(0, 0), store(1, 2, 1), load(0, 0), load(3, 6)}, code: api.Got, value: 6},
		way{what: "three entries, by line 5", cells: []uint64{0, 3, 5, 6, 7}, q: line(3), steps: []step{load(1, 3), load(0, 0), store(1, 3, 2), load(0, 0), load(4, 7)}, code: api.Got, value: 7},
		way{what: "the last entry, by lines 6 to 8", cells: []uint64{0, 1, 5, 6}, q: line(2), steps: []step{load(1, 1), load(0, 0), store(1, 1, 0), load(0, 0), cas(0, 0, 1), store(1, 0, 1), load(2, 5)}, code: api.Got, value: 5},
		way{what: "the last entry, by lines 6 and 9", cells: []uint64{0, 1, 5, 6}, q: line(2), steps: []step{load(1, 1), load(0, 0), store(1, 1, 0), load(0, 0), cas(0, 1, 1).After(0, 1), store(1, 0, 1)}, code: api.Empty},
		way{what: "the last entry, by lines 4 and 9", cells: []uint64{0, 1, 5, 6}, q: line(2), steps: []step{load(1, 1), load(0, 0), store(1, 1, 0), load(0, 1).After(0, 1), store(1, 0, 1)}, code: api.Empty},
		way{what: "a deque of other cells", cells: []uint64{4, 40, 50, 60, 0, 6}, q: api.Queue{Top: 0, Bottom: 5, Ring: 1, Cap: 4}, steps: []step{load(5, 6), load(0, 4), store(5, 6, 5), load(0, 4), load(2, 50)}, code: api.Got, value: 50},
		way{what: "a deque whose cells are in another order", cells: []uint64{40, 50, 9, 8, 1}, q: api.Queue{Top: 3, Bottom: 2, Ring: 0, Cap: 2}, steps: []step{load(2, 9), load(3, 8), store(2, 9, 8), load(3, 8), cas(3, 8, 9), store(2, 8, 9), load(0, 40)}, code: api.Got, value: 40},

		way{what: "a deque of one place", cells: []uint64{7, 8, 3}, q: line(1), steps: []step{load(1, 8), load(0, 7), store(1, 8, 7), load(0, 7), cas(0, 7, 8), store(1, 7, 8), load(2, 3)}, code: api.Got, value: 3},
		way{what: "an empty deque of one place", cells: []uint64{7, 7, 3}, q: line(1), steps: []step{load(1, 7), load(0, 7)}, code: api.Empty},
		way{what: "too many entries", cells: []uint64{0, 5, 5, 6}, q: line(2), steps: []step{load(1, 5), load(0, 0), store(1, 5, 4), load(0, 0), load(2, 5)}, code: api.Got, value: 5},
		way{what: "an empty deque of no place", cells: []uint64{0, 0, 5, 6}, q: line(0), steps: []step{load(1, 0), load(0, 0)}, code: api.Empty},
		way{what: "two entries and no place", cells: []uint64{0, 2, 5, 6}, q: line(0), steps: []step{load(1, 2), load(0, 0), store(1, 2, 1), load(0, 0), none}, code: api.Got},
		way{what: "one entry and no place", cells: []uint64{0, 1, 5, 6}, q: line(0), steps: []step{load(1, 1), load(0, 0), store(1, 1, 0), load(0, 0), cas(0, 0, 1), store(1, 0, 1), none}, code: api.Got},
		way{what: "two entries and a negative capacity", cells: []uint64{0, 2, 5, 6}, q: line(-1), steps: []step{load(1, 2), load(0, 0), store(1, 2, 1), load(0, 0), none}, code: api.Got},
		way{what: "one entry and the least capacity", cells: []uint64{0, 1, 5, 6}, q: line(math.MinInt), steps: []step{load(1, 1), load(0, 0), store(1, 1, 0), load(0, 0), cas(0, 0, 1), store(1, 0, 1), none}, code: api.Got},
		way{what: "the greatest capacity", cells: []uint64{0, 2, 5, 6}, q: line(math.MaxInt), steps: []step{load(1, 2), load(0, 0), store(1, 2, 1), load(0, 0), load(3, 6)}, code: api.Got, value: 6},
		way{what: "a ring beyond the greatest int", cells: []uint64{half - 4, half - 2, 5, 6}, q: line(math.MaxInt), steps: []step{load(1, half-2), load(0, half-4), store(1, half-2, half-3), load(0, half-4), none}, code: api.Got},
	)
}

// popIndices returns the ways of Pop with indices that begin anywhere.
func popIndices() []way {
	return pops(
		way{what: "an empty deque at 4", cells: []uint64{4, 4, 1, 2, 3}, q: line(3), steps: []step{load(1, 4), load(0, 4)}, code: api.Empty},
		way{what: "the last entry at 4", cells: []uint64{4, 5, 1, 2, 3}, q: line(3), steps: []step{load(1, 5), load(0, 4), store(1, 5, 4), load(0, 4), cas(0, 4, 5), store(1, 4, 5), load(3, 2)}, code: api.Got, value: 2},
		way{what: "the end of the ring", cells: []uint64{4, 6, 1, 2, 3}, q: line(3), steps: []step{load(1, 6), load(0, 4), store(1, 6, 5), load(0, 4), load(4, 3)}, code: api.Got, value: 3},
		way{what: "the beginning of the ring", cells: []uint64{4, 7, 1, 2, 3}, q: line(3), steps: []step{load(1, 7), load(0, 4), store(1, 7, 6), load(0, 4), load(2, 1)}, code: api.Got, value: 1},
		// 2^63 is 2 more than a multiple of 3.
		way{what: "the last entry at 2^63 - 1", cells: []uint64{half - 1, half, 1, 2, 3}, q: line(3), steps: []step{load(1, half), load(0, half-1), store(1, half, half-1), load(0, half-1), cas(0, half-1, half), store(1, half-1, half), load(3, 2)}, code: api.Got, value: 2},
		way{what: "entries around 2^63", cells: []uint64{half - 1, half + 1, 1, 2, 3}, q: line(3), steps: []step{load(1, half+1), load(0, half-1), store(1, half+1, half), load(0, half-1), load(4, 3)}, code: api.Got, value: 3},
		way{what: "an empty deque at 2^63", cells: []uint64{half, half, 1, 2, 3}, q: line(3), steps: []step{load(1, half), load(0, half)}, code: api.Empty},
		way{what: "a size of -1 around 2^63", cells: []uint64{half, half - 1, 1, 2, 3}, q: line(3), steps: []step{load(1, half-1), load(0, half)}, code: api.Empty},
		way{what: "the greatest size", cells: []uint64{0, half - 1, 1, 2, 3}, q: line(3), steps: []step{load(1, half-1), load(0, 0), store(1, half-1, half-2), load(0, 0), load(2, 1)}, code: api.Got, value: 1},
		way{what: "the greatest size, at 2^63", cells: []uint64{half, top, 1, 2, 3}, q: line(3), steps: []step{load(1, top), load(0, half), store(1, top, top-1), load(0, half), load(4, 3)}, code: api.Got, value: 3},
		// 2^64 - 1 is a multiple of 3, and 3 more than a multiple of 4.
		way{what: "the last index of a word", cells: []uint64{top, 0, 1, 2, 3, 4}, q: line(4), steps: []step{load(1, 0), load(0, top), store(1, 0, top), load(0, top), cas(0, top, 0), store(1, top, 0), load(5, 4)}, code: api.Got, value: 4},
		way{what: "the last index of a word, below which is another one", cells: []uint64{top - 1, 0, 1, 2, 3}, q: line(3), steps: []step{load(1, 0), load(0, top-1), store(1, 0, top), load(0, top-1), load(2, 1)}, code: api.Got, value: 1},
		way{what: "the first index behind a word", cells: []uint64{top, 1, 1, 2, 3}, q: line(3), steps: []step{load(1, 1), load(0, top), store(1, 1, 0), load(0, top), load(2, 1)}, code: api.Got, value: 1},
		way{what: "a size of -1 around 2^64", cells: []uint64{0, top, 1, 2, 3}, q: line(3), steps: []step{load(1, top), load(0, 0)}, code: api.Empty},
		way{what: "an empty deque at 2^64 - 1", cells: []uint64{top, top, 1, 2, 3}, q: line(3), steps: []step{load(1, top), load(0, top)}, code: api.Empty},
		way{what: "the first index, which a thief takes", cells: []uint64{0, 1, 1, 2, 3}, q: line(3), steps: []step{load(1, 1), load(0, 0), store(1, 1, 0), load(0, 1).After(0, 1), store(1, 0, 1)}, code: api.Empty},
		way{what: "the last index of a word, which a thief takes", cells: []uint64{top, 0, 1, 2, 3}, q: line(3), steps: []step{load(1, 0), load(0, top), store(1, 0, top), load(0, 0).After(0, 0), store(1, top, 0)}, code: api.Empty},
	)
}

// popCells returns the ways of Pop of deques whose cells do not exist or coincide.
func popCells() []way {
	return pops(
		way{what: "a deque without cells and places", cells: []uint64{1, 2}, q: api.Queue{Top: -1, Bottom: -1, Ring: -1}, steps: []step{none, none}, code: api.Empty},
		way{what: "a deque without cells", cells: []uint64{1, 2}, q: api.Queue{Top: -1, Bottom: -1, Ring: -1, Cap: 1}, steps: []step{none, none}, code: api.Empty},
		way{what: "a deque without a memory", cells: nil, q: line(2), steps: []step{none, none}, code: api.Empty},
		way{what: "a deque at the least int", cells: []uint64{1, 2}, q: api.Queue{Top: math.MinInt, Bottom: math.MinInt, Ring: math.MinInt, Cap: 3}, steps: []step{none, none}, code: api.Empty},
		way{what: "a deque at the greatest int", cells: []uint64{1, 2}, q: api.Queue{Top: math.MaxInt, Bottom: math.MaxInt, Ring: math.MaxInt, Cap: 3}, steps: []step{none, none}, code: api.Empty},
		// A CAS of a cell that does not exist returns false.
		way{what: "one entry without Top", cells: []uint64{0, 1, 5, 6}, q: api.Queue{Top: 4, Bottom: 1, Ring: 2, Cap: 2}, steps: []step{load(1, 1), none, store(1, 1, 0), none, none, store(1, 0, 1)}, code: api.Empty},
		way{what: "two entries without Top", cells: []uint64{0, 2, 5, 6}, q: api.Queue{Top: -2, Bottom: 1, Ring: 2, Cap: 2}, steps: []step{load(1, 2), none, store(1, 2, 1), none, load(3, 6)}, code: api.Got, value: 6},
		way{what: "one entry without Bottom", cells: []uint64{top, 0, 5, 6}, q: api.Queue{Top: 0, Bottom: 4, Ring: 2, Cap: 2}, steps: []step{none, load(0, top), none, load(0, top), cas(0, top, 0), none, load(3, 6)}, code: api.Got, value: 6},
		way{what: "one entry without Bottom, which a thief takes", cells: []uint64{top, 0, 5, 6}, q: api.Queue{Top: 0, Bottom: -1, Ring: 2, Cap: 2}, steps: []step{none, load(0, top), none, load(0, top), cas(0, 0, 0).After(0, 0), none}, code: api.Empty},
		way{what: "an empty deque without Bottom", cells: []uint64{1, 1, 5, 6}, q: api.Queue{Top: 0, Bottom: -1, Ring: 2, Cap: 2}, steps: []step{none, load(0, 1)}, code: api.Empty},
		way{what: "one entry without a ring", cells: []uint64{0, 1, 5, 6}, q: api.Queue{Top: 0, Bottom: 1, Ring: 4, Cap: 2}, steps: []step{load(1, 1), load(0, 0), store(1, 1, 0), load(0, 0), cas(0, 0, 1), store(1, 0, 1), none}, code: api.Got},
		way{what: "the last cell", cells: []uint64{1, 3, 5, 6}, q: api.Queue{Top: 0, Bottom: 1, Ring: 3, Cap: 2}, steps: []step{load(1, 3), load(0, 1), store(1, 3, 2), load(0, 1), load(3, 6)}, code: api.Got, value: 6},
		way{what: "the place behind the last cell", cells: []uint64{0, 2, 5, 6}, q: api.Queue{Top: 0, Bottom: 1, Ring: 3, Cap: 2}, steps: []step{load(1, 2), load(0, 0), store(1, 2, 1), load(0, 0), none}, code: api.Got},
		way{what: "a ring at a negative cell", cells: []uint64{3, 5, 7, 8}, q: api.Queue{Top: 0, Bottom: 1, Ring: -2, Cap: 9}, steps: []step{load(1, 5), load(0, 3), store(1, 5, 4), load(0, 3), load(2, 7)}, code: api.Got, value: 7},
		way{what: "a negative place of this ring", cells: []uint64{0, 2, 7, 8}, q: api.Queue{Top: 0, Bottom: 1, Ring: -2, Cap: 9}, steps: []step{load(1, 2), load(0, 0), store(1, 2, 1), load(0, 0), none}, code: api.Got},
		way{what: "a deque whose Bottom is its Top", cells: []uint64{5, 7, 8}, q: api.Queue{Top: 0, Bottom: 0, Ring: 1, Cap: 2}, steps: []step{load(0, 5), load(0, 5)}, code: api.Empty},
		way{what: "a deque whose Bottom is its Top, which changes", cells: []uint64{5, 7, 8}, q: api.Queue{Top: 0, Bottom: 0, Ring: 1, Cap: 2}, steps: []step{load(0, 5), load(0, 3).After(0, 3), store(0, 3, 4), load(0, 4), cas(0, 4, 5), store(0, 5, 5), load(1, 7)}, code: api.Got, value: 7},
		way{what: "a deque whose ring is its Bottom", cells: []uint64{4, 6}, q: api.Queue{Top: 0, Bottom: 1, Ring: 1, Cap: 1}, steps: []step{load(1, 6), load(0, 4), store(1, 6, 5), load(0, 4), load(1, 5)}, code: api.Got, value: 5},
	)
}

// popValues returns the ways of Pop by line 5 and by line 8 with entries of all kinds.
func popValues() []way {
	var l []way
	for _, x := range []struct {
		cell  uint64
		value int
	}{
		{0, 0}, {1, 1}, {256, 256}, {half - 1, math.MaxInt}, {half, math.MinInt}, {half + 1, math.MinInt + 1}, {top - 1, -2}, {top, -1},
	} {
		l = append(l,
			way{what: fmt.Sprintf("%#x of two entries", x.cell), cells: []uint64{0, 2, 70, x.cell}, q: line(2), steps: []step{load(1, 2), load(0, 0), store(1, 2, 1), load(0, 0), load(3, x.cell)}, code: api.Got, value: x.value},
			way{what: fmt.Sprintf("%#x of one entry", x.cell), cells: []uint64{0, 1, x.cell, 80}, q: line(2), steps: []step{load(1, 1), load(0, 0), store(1, 1, 0), load(0, 0), cas(0, 0, 1), store(1, 0, 1), load(2, x.cell)}, code: api.Got, value: x.value},
		)
	}
	return pops(l...)
}

// popOthers returns the ways of Pop while another machine changes the cells.
func popOthers() []way {
	return pops(
		way{what: "a deque while Bottom changes before line 1", cells: []uint64{0, 1, 70, 80}, q: line(2), steps: []step{load(1, 2).After(1, 2), load(0, 0), store(1, 2, 1), load(0, 0), load(3, 80)}, code: api.Got, value: 80},
		way{what: "a deque while Bottom changes before line 2", cells: []uint64{0, 2, 70, 80}, q: line(2), steps: []step{load(1, 2), load(0, 0).After(1, 0), store(1, 0, 1), load(0, 0), load(3, 80)}, code: api.Got, value: 80},
		way{what: "an empty deque while Bottom changes before line 2", cells: []uint64{0, 0, 70, 80}, q: line(2), steps: []step{load(1, 0), load(0, 0).After(1, 2)}, code: api.Empty},
		way{what: "a deque while Bottom changes before lines 3 and 4", cells: []uint64{0, 2, 70, 80}, q: line(2), steps: []step{load(1, 2), load(0, 0), store(1, 1, 1).After(1, 1), load(0, 0).After(1, 0), load(3, 80)}, code: api.Got, value: 80},
		way{what: "the last entry while Bottom changes before lines 6 to 8", cells: []uint64{0, 1, 70, 80}, q: line(2), steps: []step{load(1, 1), load(0, 0), store(1, 1, 0), load(0, 0), cas(0, 0, 1).After(1, 7), store(1, 8, 1).After(1, 8), load(2, 70).After(1, 6)}, code: api.Got, value: 70},
		way{what: "the last entry while Bottom changes before line 9", cells: []uint64{0, 1, 70, 80}, q: line(2), steps: []step{load(1, 1), load(0, 0), store(1, 1, 0), load(0, 0), cas(0, 1, 1).After(0, 1), store(1, 8, 1).After(1, 8)}, code: api.Empty},

		way{what: "a deque while Top changes before line 1", cells: []uint64{0, 2, 70, 80}, q: line(2), steps: []step{load(1, 2).After(0, 2), load(0, 2)}, code: api.Empty},
		way{what: "two entries, both of which are taken before line 2", cells: []uint64{0, 2, 70, 80}, q: line(2), steps: []step{load(1, 2), load(0, 2).After(0, 2)}, code: api.Empty},
		way{what: "two entries, one of which is taken before line 2", cells: []uint64{0, 2, 70, 80}, q: line(2), steps: []step{load(1, 2), load(0, 1).After(0, 1), store(1, 2, 1), load(0, 1), cas(0, 1, 2), store(1, 1, 2), load(3, 80)}, code: api.Got, value: 80},
		way{what: "two entries, one of which is taken before line 3", cells: []uint64{0, 2, 70, 80}, q: line(2), steps: []step{load(1, 2), load(0, 0), store(1, 2, 1).After(0, 1), load(0, 1), cas(0, 1, 2), store(1, 1, 2), load(3, 80)}, code: api.Got, value: 80},
		way{what: "two entries, one of which is taken before line 4", cells: []uint64{0, 2, 70, 80}, q: line(2), steps: []step{load(1, 2), load(0, 0), store(1, 2, 1), load(0, 1).After(0, 1), cas(0, 1, 2), store(1, 1, 2), load(3, 80)}, code: api.Got, value: 80},
		way{what: "two entries, one of which is taken before line 4 and one before line 6", cells: []uint64{0, 2, 70, 80}, q: line(2), steps: []step{load(1, 2), load(0, 0), store(1, 2, 1), load(0, 1).After(0, 1), cas(0, 2, 2).After(0, 2), store(1, 1, 2)}, code: api.Empty},
		way{what: "two entries, both of which are taken before line 4", cells: []uint64{0, 2, 70, 80}, q: line(2), steps: []step{load(1, 2), load(0, 0), store(1, 2, 1), load(0, 2).After(0, 2), store(1, 1, 2)}, code: api.Empty},
		way{what: "two entries, one of which is taken before line 5", cells: []uint64{0, 2, 70, 80}, q: line(2), steps: []step{load(1, 2), load(0, 0), store(1, 2, 1), load(0, 0), load(3, 80).After(0, 1)}, code: api.Got, value: 80},
		way{what: "three entries, one of which is taken before line 4", cells: []uint64{0, 3, 70, 80, 90}, q: line(3), steps: []step{load(1, 3), load(0, 0), store(1, 3, 2), load(0, 1).After(0, 1), load(4, 90)}, code: api.Got, value: 90},
		way{what: "one entry, above which more come before line 4", cells: []uint64{5, 6, 70, 80}, q: line(2), steps: []step{load(1, 6), load(0, 5), store(1, 6, 5), load(0, 4).After(0, 4), load(3, 80)}, code: api.Got, value: 80},
		way{what: "one entry while Top becomes less before line 6", cells: []uint64{5, 6, 70, 80}, q: line(2), steps: []step{load(1, 6), load(0, 5), store(1, 6, 5), load(0, 5), cas(0, 4, 4).After(0, 4), store(1, 5, 6)}, code: api.Empty},
		way{what: "one entry while Top comes back before line 6", cells: []uint64{5, 6, 70, 80}, q: line(2), steps: []step{load(1, 6), load(0, 5), store(1, 6, 5), load(0, 5), cas(0, 5, 6).After(0, 6).After(0, 5), store(1, 5, 6), load(3, 80)}, code: api.Got, value: 80},
		way{what: "one entry while Top changes behind line 6", cells: []uint64{5, 6, 70, 80}, q: line(2), steps: []step{load(1, 6), load(0, 5), store(1, 6, 5), load(0, 5), cas(0, 5, 6), store(1, 5, 6).After(0, 60), load(3, 80).After(0, 61)}, code: api.Got, value: 80},
		// Sizes at line 4 that are as great and as small as can be: Bottom is 0 then.
		way{what: "one entry while the size becomes the least one", cells: []uint64{0, 1, 70, 80}, q: line(2), steps: []step{load(1, 1), load(0, 0), store(1, 1, 0), load(0, half).After(0, half), store(1, 0, 1)}, code: api.Empty},
		way{what: "one entry while the size becomes the greatest one", cells: []uint64{0, 1, 70, 80}, q: line(2), steps: []step{load(1, 1), load(0, 0), store(1, 1, 0), load(0, half+1).After(0, half+1), load(2, 70)}, code: api.Got, value: 70},

		way{what: "two entries while the ring changes before line 5", cells: []uint64{0, 2, 70, 80}, q: line(2), steps: []step{load(1, 2), load(0, 0), store(1, 2, 1), load(0, 0).After(3, 81), load(3, 82).After(3, 82).After(2, 72)}, code: api.Got, value: 82},
		way{what: "one entry while the ring changes before line 8", cells: []uint64{0, 1, 70, 80}, q: line(2), steps: []step{load(1, 1), load(0, 0), store(1, 1, 0), load(0, 0), cas(0, 0, 1), store(1, 0, 1).After(2, 71), load(2, 72).After(2, 72).After(3, 82)}, code: api.Got, value: 72},
	)
}

// P9.2: every way through the lines of Pop, on deques of all sizes and capacities.
func TestPop(t *testing.T) { checkWays(t, popLines()) }

// P9.2: indices that begin anywhere, and a size that is a difference modulo 2^64.
func TestPopIndices(t *testing.T) { checkWays(t, popIndices()) }

// P9.2 and R7: cells that do not exist or coincide.
func TestPopCells(t *testing.T) { checkWays(t, popCells()) }

// P9.2: a value that is loaded is returned as int.
func TestPopValues(t *testing.T) { checkWays(t, popValues()) }

// P9.2: what another machine changes between two lines.
func TestPopOthers(t *testing.T) { checkWays(t, popOthers()) }

// ways returns all ways of both machines.
func ways() []way {
	return slices.Concat(pushLines(), pushIndices(), pushCells(), pushValues(), pushOthers(), popLines(), popIndices(), popCells(), popValues(), popOthers())
}

// The copy of a machine at each of its lines, and of one that is done, continues independently, whichever goes on first.
func TestCopy(t *testing.T) {
	for _, w := range ways() {
		steptest.CheckCopies(t, w.whole())
	}
}

// The original and its copy go different ways, step by step in turn, if their memories differ.
func TestCopyGoesAnotherWay(t *testing.T) {
	w := pops(way{what: "the last entry", cells: []uint64{0, 1, 5, 6}, q: line(2), steps: []step{load(1, 1), load(0, 0), store(1, 1, 0), load(0, 0)}})[0]
	e, x := w.whole().Begun(4)
	y, f := x.Copy(), e.Copy()
	steptest.CheckStep(t, "the CAS of the original fails", e, x, cas(0, 1, 1).After(0, 1), false)
	steptest.CheckStep(t, "the CAS of the copy", f, y, cas(0, 0, 1), false)
	steptest.CheckStep(t, "line 9 of the original", e, x, store(1, 0, 1), true)
	steptest.CheckResult(t, "the copy while the original is done", y, 0, 0)
	steptest.CheckStep(t, "line 7 of the copy", f, y, store(1, 0, 1), false)
	steptest.CheckStep(t, "line 8 of the copy", f, y, load(2, 5), true)
	steptest.CheckResult(t, "the original", x, api.Empty, 0)
	steptest.CheckResult(t, "the copy", y, api.Got, 5)

	e, x = steptest.Filled([]uint64{0, 1, 5, 6}), owner.Push(line(2), 9)
	x.Step(e)
	y, f = x.Copy(), e.Copy()
	steptest.CheckStep(t, "line 2 of the copy", f, y, load(0, top).After(0, top), true)
	steptest.CheckStep(t, "line 2 of the original", e, x, load(0, 0), false)
	steptest.CheckStep(t, "line 3 of the original", e, x, store(3, 6, 9), false)
	steptest.CheckResult(t, "the copy of Push", y, api.Full, 0)
	steptest.CheckResult(t, "Push", x, 0, 0)
}

// R6: a machine that is given to another environment keeps what it has loaded, and accesses the cells of that one.
func TestOtherEnvironment(t *testing.T) {
	x := owner.Push(line(2), 9)
	steptest.CheckStep(t, "line 1 of Push", steptest.Filled([]uint64{8, 1, 70, 80}), x, load(1, 1), false)
	steptest.CheckStep(t, "line 2 of Push", steptest.Filled([]uint64{0, 8, 71, 81}), x, load(0, 0), false)
	steptest.CheckStep(t, "line 3 of Push", steptest.Filled([]uint64{8, 8, 72, 82}), x, store(3, 82, 9), false)
	steptest.CheckStep(t, "line 4 of Push", steptest.Filled([]uint64{8, 8, 73, 83}), x, store(1, 8, 2), true)
	steptest.CheckStep(t, "Push, done", steptest.Filled([]uint64{0, 0, 0, 0}), x, none, true)
	steptest.CheckResult(t, "Push", x, api.Fine, 0)

	x = owner.Pop(line(2))
	steptest.CheckStep(t, "line 1 of Pop", steptest.Filled([]uint64{8, 1, 70, 80}), x, load(1, 1), false)
	steptest.CheckStep(t, "line 2 of Pop", steptest.Filled([]uint64{0, 8, 71, 81}), x, load(0, 0), false)
	steptest.CheckStep(t, "line 3 of Pop", steptest.Filled([]uint64{8, 8, 72, 82}), x, store(1, 8, 0), false)
	steptest.CheckStep(t, "line 4 of Pop", steptest.Filled([]uint64{0, 8, 73, 83}), x, load(0, 0), false)
	steptest.CheckStep(t, "line 6 of Pop", steptest.Filled([]uint64{0, 8, 74, 84}), x, cas(0, 0, 1), false)
	steptest.CheckStep(t, "line 7 of Pop", steptest.Filled([]uint64{8, 8, 75, 85}), x, store(1, 8, 1), false)
	steptest.CheckStep(t, "line 8 of Pop", steptest.Filled([]uint64{8, 8, 76, 86}), x, load(2, 76), true)
	steptest.CheckStep(t, "Pop, done", steptest.Filled([]uint64{0, 0, 0, 0}), x, none, true)
	steptest.CheckResult(t, "Pop", x, api.Got, 76)

	// A step without an access for want of cells is a step as well.
	x = owner.Pop(line(2))
	steptest.CheckStep(t, "line 1 of Pop without cells", machine.Bare(0), x, none, false)
	steptest.CheckStep(t, "line 2 of Pop behind it", steptest.Filled([]uint64{top, 8, 77, 87}), x, load(0, top), false)
}

// P9.1, P9.2 and R2: the deques of an environment that New returned; two machines that are made by equal calls behave equally, and nothing but the cells of the deque is changed.
func TestRealDeque(t *testing.T) {
	c := config.Decode([]byte{2, 3, 0, 4, 2})
	e, err := machine.New(c)
	if err != api.OK {
		t.Fatalf("New returns the error %d", err)
	}
	f := e.Copy()
	for range 2 {
		for worker := range c.Workers {
			for level := range c.Levels {
				q := e.Layout.Queue(worker, level)
				for i := range q.Cap + 1 {
					steptest.CheckEqual(t, "Push on a deque of the layout", e, f, owner.Push(q, 100*worker+10*level+i), owner.Push(q, 100*worker+10*level+i))
				}
			}
		}
		for worker := range c.Workers {
			for level := range c.Levels {
				q := e.Layout.Queue(worker, level)
				for i := q.Cap - 1; i >= 0; i-- {
					x := owner.Pop(q)
					steptest.CheckEqual(t, "Pop of a deque of the layout", e, f, x, owner.Pop(q))
					steptest.CheckResult(t, "Pop of a deque of the layout", x, api.Got, 100*worker+10*level+i)
				}
			}
		}
	}
	// There is no such worker, and no such level: all cells are -1, and there is no place.
	count := e.Memory.Count()
	for _, q := range []api.Queue{e.Layout.Queue(c.Workers, 0), e.Layout.Queue(0, -1)} {
		x, y := owner.Push(q, 1), owner.Pop(q)
		machine.Run(e, x, 10)
		machine.Run(e, y, 10)
		steptest.CheckResult(t, "Push without a deque", x, api.Full, 0)
		steptest.CheckResult(t, "Pop without a deque", y, api.Empty, 0)
	}
	if e.Memory.Count() != count {
		t.Errorf("machines without a deque made %d accesses", e.Memory.Count()-count)
	}
}

// A model performs the lines of the chapter with numbers of any size: it does not know how words wrap.
type model struct {
	q           api.Queue
	push        bool
	entry       int
	line        int
	b, t        uint64
	code, value int
}

// number returns a word as a number of any size.
func number(v uint64) *big.Int { return new(big.Int).SetUint64(v) }

// power returns a power of two.
func power(n uint) *big.Int { return new(big.Int).Lsh(big.NewInt(1), n) }

// word returns the word that a number is modulo 2^64.
func word(n *big.Int) uint64 { return new(big.Int).Mod(n, power(64)).Uint64() }

// plus returns the sum of a word and a number, modulo 2^64.
func plus(v uint64, n int64) uint64 { return word(new(big.Int).Add(number(v), big.NewInt(n))) }

// size returns the size for contents of Bottom and Top.
func size(b, t uint64) *big.Int {
	n := new(big.Int).Mod(new(big.Int).Sub(number(b), number(t)), power(64))
	if n.Cmp(power(63)) >= 0 {
		n.Sub(n, power(64))
	}
	return n
}

// place returns the cell of an index, or -1 if a memory of a few cells does not have it.
func (m *model) place(index uint64, cells []uint64) int {
	if m.q.Cap < 1 {
		return -1
	}
	n := new(big.Int).Mod(number(index), big.NewInt(int64(m.q.Cap)))
	n.Add(n, big.NewInt(int64(m.q.Ring)))
	if n.Sign() < 0 || n.Cmp(big.NewInt(int64(len(cells)))) >= 0 {
		return -1
	}
	return int(n.Int64())
}

// access accesses a cell, and returns the access and what it contained; none and 0 if it does not exist.
func access(cells []uint64, kind, cell int, change func(x uint64) uint64) (step, uint64) {
	if cell < 0 || cell >= len(cells) {
		return none, 0
	}
	x := cells[cell]
	cells[cell] = change(x)
	return step{Access: api.Access{Kind: kind, Cell: cell, Old: x, New: cells[cell]}}, x
}

// reads returns the access of a load, and what is loaded.
func reads(cells []uint64, cell int) (step, uint64) {
	return access(cells, api.AccessLoad, cell, func(x uint64) uint64 { return x })
}

// writes returns the access of a store.
func writes(cells []uint64, cell int, v uint64) step {
	s, _ := access(cells, api.AccessStore, cell, func(uint64) uint64 { return v })
	return s
}

// done lets the model be done; it has no next line then.
func (m *model) done(code, value int) int {
	m.code, m.value = code, value
	return 0
}

// step performs the next line on cells, and returns its access.
func (m *model) step(cells []uint64) step {
	var s step
	if m.push {
		m.line, s = m.pushes(cells)
	} else {
		m.line, s = m.pops(cells)
	}
	return s
}

// pushes performs a line of Push, and returns the next one.
func (m *model) pushes(cells []uint64) (next int, s step) {
	switch m.line {
	case 1:
		s, m.b = reads(cells, m.q.Bottom)
		return 2, s
	case 2:
		s, m.t = reads(cells, m.q.Top)
		if size(m.b, m.t).Cmp(big.NewInt(int64(m.q.Cap))) >= 0 {
			return m.done(api.Full, 0), s
		}
		return 3, s
	case 3:
		return 4, writes(cells, m.place(m.b, cells), word(big.NewInt(int64(m.entry))))
	}
	return m.done(api.Fine, 0), writes(cells, m.q.Bottom, plus(m.b, 1))
}

// pops performs a line of Pop, and returns the next one.
func (m *model) pops(cells []uint64) (next int, s step) {
	switch m.line {
	case 1:
		s, m.b = reads(cells, m.q.Bottom)
		return 2, s
	case 2:
		s, m.t = reads(cells, m.q.Top)
		if size(m.b, m.t).Sign() <= 0 {
			return m.done(api.Empty, 0), s
		}
		return 3, s
	case 3:
		return 4, writes(cells, m.q.Bottom, plus(m.b, -1))
	case 4:
		s, m.t = reads(cells, m.q.Top)
		return []int{9, 6, 5}[size(plus(m.b, -1), m.t).Sign()+1], s
	case 6:
		s, x := access(cells, api.AccessCAS, m.q.Top, func(x uint64) uint64 {
			if x == m.t {
				return plus(x, 1)
			}
			return x
		})
		if s.Access.Kind != api.AccessNone && x == m.t {
			return 7, s
		}
		return 9, s
	case 7:
		return 8, writes(cells, m.q.Bottom, m.b)
	case 9:
		return m.done(api.Empty, 0), writes(cells, m.q.Bottom, m.b)
	}
	s, v := reads(cells, m.place(plus(m.b, -1), cells))
	return m.done(api.Got, int(size(v, 0).Int64())), s
}

// words returns contents of cells: small ones, and such around 2^63 and 2^64.
func words() []uint64 {
	l := []uint64{1000, 1001}
	for i := range uint64(5) {
		l = append(l, i, half-2+i, top-4+i)
	}
	return l
}

// P9.1, P9.2 and R1: machines with arguments of all kinds, on cells of all contents, while another machine puts something into cells now and then, do what the model does. Each way through the lines occurs.
func TestModel(t *testing.T) {
	some := steptest.Mixed(9)
	contents := words()
	caps := []int{1, 2, 3, 4, 7, 0, -1, math.MinInt, math.MaxInt}
	rings := []int{2, 2, 2, 2, 3, 0, 5, -1, -3, math.MinInt, math.MaxInt}
	entries := []int{0, 5, -1, math.MinInt, math.MaxInt}
	seen := map[string]int{}
	for range 40000 {
		m := model{q: api.Queue{Top: 0, Bottom: 1, Ring: rings[some(len(rings))], Cap: caps[some(len(caps))]}, push: some(3) == 0, entry: entries[some(len(entries))], line: 1}
		if some(10) == 0 {
			m.q.Top, m.q.Bottom = some(8)-2, some(8)-2
		}
		cells := make([]uint64, 6)
		for i := range cells {
			cells[i] = contents[some(len(contents))]
		}
		// Most deques have a few entries.
		if some(5) != 0 {
			cells[1] = plus(cells[0], int64(some(5)-1))
		}
		seen[checkModel(t, m, cells, some)]++
		if t.Failed() {
			return
		}
	}
	for _, way := range []string{"push 12", "push 1234", "pop 12", "pop 12345", "pop 1234678", "pop 123469", "pop 12349"} {
		if seen[way] == 0 {
			t.Errorf("the way %s did not occur, so that it was not tested", way)
		}
		delete(seen, way)
	}
	if len(seen) != 0 {
		t.Errorf("there are other ways: %v", seen)
	}
}

// checkModel checks a machine against its model to the end, and returns the lines of its way.
func checkModel(t *testing.T, m model, cells []uint64, some func(n int) int) string {
	t.Helper()
	w := way{q: m.q, push: m.push, entry: m.entry, cells: slices.Clone(cells)}
	lines := "pop "
	if m.push {
		lines = "push "
	}
	for m.line != 0 {
		lines += fmt.Sprint(m.line)
		var puts []steptest.Put
		if some(4) == 0 {
			cell := some(len(cells))
			// Near to what is there: a Top that moves on is the most frequent change.
			puts = append(puts, steptest.Put{Cell: cell, V: plus(cells[cell], int64(some(4)-1))})
			cells[cell] = puts[0].V
		}
		s := m.step(cells)
		s.Puts = puts
		w.steps = append(w.steps, s)
	}
	w.code, w.value = m.code, m.value
	w.what = fmt.Sprintf("%s of %v, entry %d, cells %v", lines, w.q, w.entry, w.cells)
	steptest.Check(t, w.whole())
	return lines
}

// The consequence of P9.1 and P9.2: push and pop of an owner alone behave as a stack with Cap entries, wherever the indices begin.
func TestStack(t *testing.T) {
	for capacity := 1; capacity <= 5; capacity++ {
		for _, begin := range []uint64{0, 1, 4, 99, half - 20, half - 2, half, top - 150} {
			q := line(capacity)
			e := machine.Bare(2 + capacity)
			e.Memory.Store(q.Top, begin)
			e.Memory.Store(q.Bottom, begin)
			var stack []int
			some := steptest.Mixed(uint64(capacity))
			for i := range 200 {
				if some(2) == 0 {
					stack = checkPush(t, e, q, stack, i)
				} else {
					stack = checkPop(t, e, q, stack)
				}
			}
		}
	}
}

// checkPush pushes an entry on a deque that contains a stack, and returns what it contains then.
func checkPush(t *testing.T, e *machine.Env, q api.Queue, stack []int, entry int) []int {
	t.Helper()
	x := owner.Push(q, entry)
	n, done := machine.Run(e, x, 100)
	steps, code, after := 4, api.Fine, append(stack, entry)
	if len(stack) == q.Cap {
		steps, code, after = 2, api.Full, stack
	}
	if n != steps || !done {
		t.Errorf("Push on %v of %d places: %d steps, %t, want %d", stack, q.Cap, n, done, steps)
	}
	steptest.CheckResult(t, fmt.Sprintf("Push on %v of %d places", stack, q.Cap), x, code, 0)
	return after
}

// checkPop pops an entry of a deque that contains a stack, and returns what it contains then.
func checkPop(t *testing.T, e *machine.Env, q api.Queue, stack []int) []int {
	t.Helper()
	x := owner.Pop(q)
	n, done := machine.Run(e, x, 100)
	steps, code, value, after := 2, api.Empty, 0, stack
	if len(stack) > 0 {
		last := len(stack) - 1
		steps, code, value, after = 5, api.Got, stack[last], stack[:last]
	}
	if len(stack) == 1 {
		steps = 7
	}
	if n != steps || !done {
		t.Errorf("Pop of %v: %d steps, %t, want %d", stack, n, done, steps)
	}
	steptest.CheckResult(t, fmt.Sprintf("Pop of %v", stack), x, code, value)
	return after
}

// The chapter's example.
func TestExample(t *testing.T) {
	e, q := machine.Bare(4), line(2)
	for i, c := range []struct {
		x                  machine.Machine
		steps, code, value int
	}{
		{owner.Push(q, 5), 4, api.Fine, 0},
		{owner.Push(q, 6), 4, api.Fine, 0},
		{owner.Push(q, 7), 2, api.Full, 0},
		{owner.Pop(q), 5, api.Got, 6},
		{owner.Pop(q), 7, api.Got, 5},
		{owner.Pop(q), 2, api.Empty, 0},
	} {
		what := fmt.Sprintf("example 1, machine %d", i)
		if n, done := machine.Run(e, c.x, 100); n != c.steps || !done {
			t.Errorf("%s: done is %t after %d steps, want %d steps", what, done, n, c.steps)
		}
		steptest.CheckResult(t, what, c.x, c.code, c.value)
	}
}
