package thief_test

import (
	"fmt"
	"math"
	"math/big"
	"slices"
	"testing"

	"worksteal/api"
	"worksteal/config"
	"worksteal/machine"
	"worksteal/owner"
	"worksteal/steptest"
	"worksteal/thief"
)

// Contents of cells at the limits: the greatest one, and 2^63, which is the least int.
const (
	top  = math.MaxUint64
	half = 1 << 63
)

// A step is what a step of a machine must do. The tables of ways below are written with these short names.
type step = steptest.Step

var (
	none = steptest.None()
	load = steptest.Load
	cas  = steptest.CAS
)

// A way is a way of Steal through its lines: the cells at first, the deque, what the steps must do, and the result.
type way struct {
	what        string
	cells       []uint64
	q           api.Queue
	steps       []step
	code, value int
}

// line returns a deque with a capacity whose cells begin with Top, Bottom and the ring.
func line(capacity int) api.Queue { return api.Queue{Top: 0, Bottom: 1, Ring: 2, Cap: capacity} }

// whole returns a way as steptest plays it.
func (w way) whole() steptest.Way {
	steal := func() machine.Machine { return thief.Steal(w.q) }
	return steptest.Way{What: w.what, Cells: w.cells, Make: steal, Steps: w.steps, Code: w.code, Value: w.value}
}

// checkWays checks ways from their first to their last step.
func checkWays(t *testing.T, ways []way) {
	t.Helper()
	for _, w := range ways {
		steptest.Check(t, w.whole())
	}
}

// lines returns all ways of Steal through its lines, on deques of all sizes and capacities.
func lines() []way {
	return []way{
		{what: "an empty deque", cells: []uint64{0, 0, 5, 6}, q: line(2), steps: []step{load(0, 0), load(1, 0)}, code: api.Empty},
		{what: "a size of -1", cells: []uint64{5, 4, 5, 6}, q: line(2), steps: []step{load(0, 5), load(1, 4)}, code: api.Empty},
		{what: "a size of -5", cells: []uint64{5, 0, 5, 6}, q: line(2), steps: []step{load(0, 5), load(1, 0)}, code: api.Empty},
		{what: "one entry", cells: []uint64{0, 1, 5, 6}, q: line(2), steps: []step{load(0, 0), load(1, 1), load(2, 5), cas(0, 0, 1)}, code: api.Got, value: 5},
		{what: "one entry, which is taken before line 4", cells: []uint64{0, 1, 5, 6}, q: line(2), steps: []step{load(0, 0), load(1, 1), load(2, 5), cas(0, 1, 1).After(0, 1)}, code: api.Abort},
		{what: "two entries of three", cells: []uint64{0, 2, 5, 6, 7}, q: line(3), steps: []step{load(0, 0), load(1, 2), load(2, 5), cas(0, 0, 1)}, code: api.Got, value: 5},
		{what: "a full deque", cells: []uint64{0, 3, 5, 6, 7}, q: line(3), steps: []step{load(0, 0), load(1, 3), load(2, 5), cas(0, 0, 1)}, code: api.Got, value: 5},
		{what: "a full deque, of which another thief takes one before line 4", cells: []uint64{0, 3, 5, 6, 7}, q: line(3), steps: []step{load(0, 0), load(1, 3), load(2, 5), cas(0, 1, 1).After(0, 1)}, code: api.Abort},
		{what: "the last one of three", cells: []uint64{2, 3, 5, 6, 7}, q: line(3), steps: []step{load(0, 2), load(1, 3), load(4, 7), cas(0, 2, 3)}, code: api.Got, value: 7},
		{what: "a deque with too many entries", cells: []uint64{0, 5, 5, 6}, q: line(2), steps: []step{load(0, 0), load(1, 5), load(2, 5), cas(0, 0, 1)}, code: api.Got, value: 5},
		{what: "a deque of other cells", cells: []uint64{4, 40, 50, 60, 0, 6}, q: api.Queue{Top: 0, Bottom: 5, Ring: 1, Cap: 4}, steps: []step{load(0, 4), load(5, 6), load(1, 40), cas(0, 4, 5)}, code: api.Got, value: 40},
		{what: "a deque whose cells are in another order", cells: []uint64{40, 50, 9, 8, 1}, q: api.Queue{Top: 3, Bottom: 2, Ring: 0, Cap: 2}, steps: []step{load(3, 8), load(2, 9), load(0, 40), cas(3, 8, 9)}, code: api.Got, value: 40},

		{what: "a deque of one place", cells: []uint64{7, 8, 3}, q: line(1), steps: []step{load(0, 7), load(1, 8), load(2, 3), cas(0, 7, 8)}, code: api.Got, value: 3},
		{what: "an empty deque of one place", cells: []uint64{7, 7, 3}, q: line(1), steps: []step{load(0, 7), load(1, 7)}, code: api.Empty},
		{what: "an empty deque of no place", cells: []uint64{4, 4, 3}, q: line(0), steps: []step{load(0, 4), load(1, 4)}, code: api.Empty},
		{what: "two entries and no place", cells: []uint64{0, 2, 5, 6}, q: line(0), steps: []step{load(0, 0), load(1, 2), none, cas(0, 0, 1)}, code: api.Got},
		{what: "an entry and no place, which is taken before line 4", cells: []uint64{0, 1, 5, 6}, q: line(0), steps: []step{load(0, 0), load(1, 1), none, cas(0, 1, 1).After(0, 1)}, code: api.Abort},
		{what: "two entries and a negative capacity", cells: []uint64{0, 2, 5, 6}, q: line(-1), steps: []step{load(0, 0), load(1, 2), none, cas(0, 0, 1)}, code: api.Got},
		{what: "an empty deque of a negative capacity", cells: []uint64{3, 3, 5, 6}, q: line(-2), steps: []step{load(0, 3), load(1, 3)}, code: api.Empty},
		{what: "a size above a negative capacity", cells: []uint64{4, 3, 5, 6}, q: line(-2), steps: []step{load(0, 4), load(1, 3)}, code: api.Empty},
		{what: "one entry and the least capacity", cells: []uint64{0, 1, 5, 6}, q: line(math.MinInt), steps: []step{load(0, 0), load(1, 1), none, cas(0, 0, 1)}, code: api.Got},
		{what: "the greatest capacity", cells: []uint64{1, 3, 5, 6}, q: line(math.MaxInt), steps: []step{load(0, 1), load(1, 3), load(3, 6), cas(0, 1, 2)}, code: api.Got, value: 6},
		{what: "a ring up to the greatest int", cells: []uint64{half - 3, half - 2, 5, 6}, q: line(math.MaxInt), steps: []step{load(0, half-3), load(1, half-2), none, cas(0, half-3, half-2)}, code: api.Got},
		{what: "a ring beyond the greatest int", cells: []uint64{half - 2, half - 1, 5, 6}, q: line(math.MaxInt), steps: []step{load(0, half-2), load(1, half-1), none, cas(0, half-2, half-1)}, code: api.Got},
	}
}

// indices returns the ways of Steal with indices that begin anywhere.
func indices() []way {
	return []way{
		{what: "an empty deque at 4", cells: []uint64{4, 4, 1, 2, 3}, q: line(3), steps: []step{load(0, 4), load(1, 4)}, code: api.Empty},
		{what: "an entry at 4", cells: []uint64{4, 5, 1, 2, 3}, q: line(3), steps: []step{load(0, 4), load(1, 5), load(3, 2), cas(0, 4, 5)}, code: api.Got, value: 2},
		{what: "the end of the ring", cells: []uint64{5, 7, 1, 2, 3}, q: line(3), steps: []step{load(0, 5), load(1, 7), load(4, 3), cas(0, 5, 6)}, code: api.Got, value: 3},
		{what: "the beginning of the ring", cells: []uint64{6, 8, 1, 2, 3}, q: line(3), steps: []step{load(0, 6), load(1, 8), load(2, 1), cas(0, 6, 7)}, code: api.Got, value: 1},
		{what: "a full deque at 4", cells: []uint64{4, 7, 1, 2, 3}, q: line(3), steps: []step{load(0, 4), load(1, 7), load(3, 2), cas(0, 4, 5)}, code: api.Got, value: 2},
		// 2^63 is 2 more than a multiple of 3.
		{what: "an entry at 2^63 - 1", cells: []uint64{half - 1, half, 1, 2, 3}, q: line(3), steps: []step{load(0, half-1), load(1, half), load(3, 2), cas(0, half-1, half)}, code: api.Got, value: 2},
		{what: "entries around 2^63", cells: []uint64{half - 1, half + 1, 1, 2, 3}, q: line(3), steps: []step{load(0, half-1), load(1, half+1), load(3, 2), cas(0, half-1, half)}, code: api.Got, value: 2},
		{what: "entries from 2^63 on", cells: []uint64{half, half + 2, 1, 2, 3}, q: line(3), steps: []step{load(0, half), load(1, half+2), load(4, 3), cas(0, half, half+1)}, code: api.Got, value: 3},
		{what: "an empty deque at 2^63", cells: []uint64{half, half, 1, 2, 3}, q: line(3), steps: []step{load(0, half), load(1, half)}, code: api.Empty},
		{what: "a size of -1 around 2^63", cells: []uint64{half, half - 1, 1, 2, 3}, q: line(3), steps: []step{load(0, half), load(1, half-1)}, code: api.Empty},
		{what: "the greatest size", cells: []uint64{0, half - 1, 1, 2, 3}, q: line(3), steps: []step{load(0, 0), load(1, half-1), load(2, 1), cas(0, 0, 1)}, code: api.Got, value: 1},
		{what: "the greatest size, from 2^63 on", cells: []uint64{half, top, 1, 2, 3}, q: line(3), steps: []step{load(0, half), load(1, top), load(4, 3), cas(0, half, half+1)}, code: api.Got, value: 3},
		{what: "the greatest size, around 2^64", cells: []uint64{half + 2, 1, 1, 2, 3}, q: line(3), steps: []step{load(0, half+2), load(1, 1), load(3, 2), cas(0, half+2, half+3)}, code: api.Got, value: 2},
		{what: "the least size", cells: []uint64{0, half, 1, 2, 3}, q: line(3), steps: []step{load(0, 0), load(1, half)}, code: api.Empty},
		{what: "the least size, from 2^63 on", cells: []uint64{half + 5, 5, 1, 2, 3}, q: line(3), steps: []step{load(0, half+5), load(1, 5)}, code: api.Empty},
		{what: "the greatest negative size, from 0 on", cells: []uint64{0, top, 1, 2, 3}, q: line(3), steps: []step{load(0, 0), load(1, top)}, code: api.Empty},
		// 2^64 - 1 is a multiple of 3, and 3 more than a multiple of 4.
		{what: "the last index of a word", cells: []uint64{top, 0, 1, 2, 3, 4}, q: line(4), steps: []step{load(0, top), load(1, 0), load(5, 4), cas(0, top, 0)}, code: api.Got, value: 4},
		{what: "the last index of a word, above which is another one", cells: []uint64{top, 1, 1, 2, 3}, q: line(3), steps: []step{load(0, top), load(1, 1), load(2, 1), cas(0, top, 0)}, code: api.Got, value: 1},
		{what: "the last index but one of a word", cells: []uint64{top - 1, 0, 1, 2, 3}, q: line(3), steps: []step{load(0, top-1), load(1, 0), load(4, 3), cas(0, top-1, top)}, code: api.Got, value: 3},
		{what: "the last index of a word, which is taken before line 4", cells: []uint64{top, 0, 1, 2, 3}, q: line(3), steps: []step{load(0, top), load(1, 0), load(2, 1), cas(0, 0, 0).After(0, 0)}, code: api.Abort},
		{what: "an empty deque at 2^64 - 1", cells: []uint64{top, top, 1, 2, 3}, q: line(3), steps: []step{load(0, top), load(1, top)}, code: api.Empty},
	}
}

// places returns the ways of Steal from deques whose cells do not exist or coincide.
func places() []way {
	return []way{
		{what: "a deque without cells and places", cells: []uint64{1, 2}, q: api.Queue{Top: -1, Bottom: -1, Ring: -1}, steps: []step{none, none}, code: api.Empty},
		{what: "a deque without cells", cells: []uint64{1, 2}, q: api.Queue{Top: -1, Bottom: -1, Ring: -1, Cap: 1}, steps: []step{none, none}, code: api.Empty},
		{what: "a deque without a memory", cells: nil, q: line(2), steps: []step{none, none}, code: api.Empty},
		{what: "a deque at the least int", cells: []uint64{1, 2}, q: api.Queue{Top: math.MinInt, Bottom: math.MinInt, Ring: math.MinInt, Cap: 3}, steps: []step{none, none}, code: api.Empty},
		{what: "a deque at the greatest int", cells: []uint64{1, 2}, q: api.Queue{Top: math.MaxInt, Bottom: math.MaxInt, Ring: math.MaxInt, Cap: 3}, steps: []step{none, none}, code: api.Empty},
		// A CAS of a cell that does not exist returns false.
		{what: "one entry without Top", cells: []uint64{0, 1, 5, 6}, q: api.Queue{Top: 4, Bottom: 1, Ring: 2, Cap: 2}, steps: []step{none, load(1, 1), load(2, 5), none}, code: api.Abort},
		{what: "two entries without Top", cells: []uint64{0, 2, 5, 6}, q: api.Queue{Top: -2, Bottom: 1, Ring: 2, Cap: 2}, steps: []step{none, load(1, 2), load(2, 5), none}, code: api.Abort},
		{what: "an entry without Top and places", cells: []uint64{0, 1, 5, 6}, q: api.Queue{Top: -1, Bottom: 1, Ring: -1}, steps: []step{none, load(1, 1), none, none}, code: api.Abort},
		{what: "an empty deque without Top", cells: []uint64{0, 0, 5, 6}, q: api.Queue{Top: 4, Bottom: 1, Ring: 2, Cap: 2}, steps: []step{none, load(1, 0)}, code: api.Empty},
		{what: "one entry without Bottom", cells: []uint64{top, 0, 5, 6}, q: api.Queue{Top: 0, Bottom: 4, Ring: 2, Cap: 2}, steps: []step{load(0, top), none, load(3, 6), cas(0, top, 0)}, code: api.Got, value: 6},
		{what: "one entry without Bottom, which is taken before line 4", cells: []uint64{top, 0, 5, 6}, q: api.Queue{Top: 0, Bottom: -1, Ring: 2, Cap: 2}, steps: []step{load(0, top), none, load(3, 6), cas(0, 0, 0).After(0, 0)}, code: api.Abort},
		{what: "an empty deque without Bottom", cells: []uint64{1, 1, 5, 6}, q: api.Queue{Top: 0, Bottom: -1, Ring: 2, Cap: 2}, steps: []step{load(0, 1), none}, code: api.Empty},
		{what: "one entry without a ring", cells: []uint64{0, 1, 5, 6}, q: api.Queue{Top: 0, Bottom: 1, Ring: 4, Cap: 2}, steps: []step{load(0, 0), load(1, 1), none, cas(0, 0, 1)}, code: api.Got},
		{what: "one entry with a ring at the least int", cells: []uint64{1, 2, 5, 6}, q: api.Queue{Top: 0, Bottom: 1, Ring: math.MinInt, Cap: 2}, steps: []step{load(0, 1), load(1, 2), none, cas(0, 1, 2)}, code: api.Got},
		{what: "the last cell", cells: []uint64{2, 3, 5, 6}, q: api.Queue{Top: 0, Bottom: 1, Ring: 3, Cap: 2}, steps: []step{load(0, 2), load(1, 3), load(3, 6), cas(0, 2, 3)}, code: api.Got, value: 6},
		{what: "the place behind the last cell", cells: []uint64{1, 3, 5, 6}, q: api.Queue{Top: 0, Bottom: 1, Ring: 3, Cap: 2}, steps: []step{load(0, 1), load(1, 3), none, cas(0, 1, 2)}, code: api.Got},
		{what: "a ring at a negative cell", cells: []uint64{4, 5, 7, 8}, q: api.Queue{Top: 0, Bottom: 1, Ring: -2, Cap: 9}, steps: []step{load(0, 4), load(1, 5), load(2, 7), cas(0, 4, 5)}, code: api.Got, value: 7},
		{what: "a negative place of this ring", cells: []uint64{1, 2, 7, 8}, q: api.Queue{Top: 0, Bottom: 1, Ring: -2, Cap: 9}, steps: []step{load(0, 1), load(1, 2), none, cas(0, 1, 2)}, code: api.Got},
		{what: "a deque whose Bottom is its Top", cells: []uint64{5, 7, 8}, q: api.Queue{Top: 0, Bottom: 0, Ring: 1, Cap: 2}, steps: []step{load(0, 5), load(0, 5)}, code: api.Empty},
		{what: "a deque whose Bottom is its Top, which changes", cells: []uint64{5, 7, 8}, q: api.Queue{Top: 0, Bottom: 0, Ring: 1, Cap: 2}, steps: []step{load(0, 5), load(0, 6).After(0, 6), load(2, 8), cas(0, 6, 6)}, code: api.Abort},
		{what: "a deque whose Bottom is its Top, which changes and comes back", cells: []uint64{5, 7, 8}, q: api.Queue{Top: 0, Bottom: 0, Ring: 1, Cap: 2}, steps: []step{load(0, 5), load(0, 6).After(0, 6), load(2, 8), cas(0, 5, 6).After(0, 5)}, code: api.Got, value: 8},
		{what: "a deque whose ring is its Top", cells: []uint64{4, 6}, q: api.Queue{Top: 0, Bottom: 1, Ring: 0, Cap: 1}, steps: []step{load(0, 4), load(1, 6), load(0, 4), cas(0, 4, 5)}, code: api.Got, value: 4},
		{what: "a deque whose ring is its Bottom", cells: []uint64{4, 6}, q: api.Queue{Top: 0, Bottom: 1, Ring: 1, Cap: 1}, steps: []step{load(0, 4), load(1, 6), load(1, 6), cas(0, 4, 5)}, code: api.Got, value: 6},
	}
}

// values returns the ways of Steal with entries of all kinds: taken, and lost to another machine.
func values() []way {
	var l []way
	for _, x := range []struct {
		cell  uint64
		value int
	}{
		{0, 0}, {1, 1}, {256, 256}, {half - 1, math.MaxInt}, {half, math.MinInt}, {half + 1, math.MinInt + 1}, {top - 1, -2}, {top, -1},
	} {
		l = append(l,
			way{what: fmt.Sprintf("the entry %#x", x.cell), cells: []uint64{1, 2, 70, x.cell}, q: line(2), steps: []step{load(0, 1), load(1, 2), load(3, x.cell), cas(0, 1, 2)}, code: api.Got, value: x.value},
			way{what: fmt.Sprintf("the entry %#x, which is taken before line 4", x.cell), cells: []uint64{1, 2, 70, x.cell}, q: line(2), steps: []step{load(0, 1), load(1, 2), load(3, x.cell), cas(0, 2, 2).After(0, 2)}, code: api.Abort},
		)
	}
	return l
}

// others returns the ways of Steal while another machine changes the cells. The lines that load a cell see what it contains then, and the others go on with what was loaded.
func others() []way {
	return []way{
		{what: "Top changes before line 1", cells: []uint64{0, 2, 70, 80}, q: line(2), steps: []step{load(0, 1).After(0, 1), load(1, 2), load(3, 80), cas(0, 1, 2)}, code: api.Got, value: 80},
		{what: "all is taken before line 1", cells: []uint64{0, 2, 70, 80}, q: line(2), steps: []step{load(0, 2).After(0, 2), load(1, 2)}, code: api.Empty},
		{what: "one is taken before line 2", cells: []uint64{0, 2, 70, 80}, q: line(2), steps: []step{load(0, 0), load(1, 2).After(0, 1), load(2, 70), cas(0, 1, 1)}, code: api.Abort},
		{what: "all is taken at the top before line 2", cells: []uint64{0, 2, 70, 80}, q: line(2), steps: []step{load(0, 0), load(1, 2).After(0, 2), load(2, 70), cas(0, 2, 2)}, code: api.Abort},
		{what: "an empty deque whose Top becomes less before line 2", cells: []uint64{2, 2, 70, 80}, q: line(2), steps: []step{load(0, 2), load(1, 2).After(0, 0)}, code: api.Empty},
		{what: "one is taken before line 3", cells: []uint64{0, 2, 70, 80}, q: line(2), steps: []step{load(0, 0), load(1, 2), load(2, 70).After(0, 1), cas(0, 1, 1)}, code: api.Abort},
		{what: "one is taken before line 4", cells: []uint64{0, 2, 70, 80}, q: line(2), steps: []step{load(0, 0), load(1, 2), load(2, 70), cas(0, 1, 1).After(0, 1)}, code: api.Abort},
		{what: "several are taken before line 4", cells: []uint64{0, 2, 70, 80}, q: line(2), steps: []step{load(0, 0), load(1, 2).After(0, 1), load(2, 70).After(0, 2), cas(0, 9, 9).After(0, 9)}, code: api.Abort},
		{what: "Top becomes less before line 4", cells: []uint64{5, 6, 70, 80}, q: line(2), steps: []step{load(0, 5), load(1, 6), load(3, 80), cas(0, 4, 4).After(0, 4)}, code: api.Abort},
		{what: "Top comes back before line 4", cells: []uint64{5, 6, 70, 80}, q: line(2), steps: []step{load(0, 5), load(1, 6).After(0, 6), load(3, 80), cas(0, 5, 6).After(0, 5)}, code: api.Got, value: 80},
		{what: "Top becomes 0 before line 4", cells: []uint64{5, 6, 70, 80}, q: line(2), steps: []step{load(0, 5), load(1, 6), load(3, 80), cas(0, 0, 0).After(0, 0)}, code: api.Abort},

		{what: "Bottom changes before line 1", cells: []uint64{0, 0, 70, 80}, q: line(2), steps: []step{load(0, 0).After(1, 1), load(1, 1), load(2, 70), cas(0, 0, 1)}, code: api.Got, value: 70},
		{what: "the owner pushes before line 2", cells: []uint64{1, 1, 70, 80}, q: line(2), steps: []step{load(0, 1), load(1, 2).After(3, 81).After(1, 2), load(3, 81), cas(0, 1, 2)}, code: api.Got, value: 81},
		{what: "the owner pops before line 2", cells: []uint64{0, 1, 70, 80}, q: line(2), steps: []step{load(0, 0), load(1, 0).After(1, 0)}, code: api.Empty},
		{what: "the owner pops before line 3", cells: []uint64{0, 2, 70, 80}, q: line(2), steps: []step{load(0, 0), load(1, 2), load(2, 70).After(1, 1), cas(0, 0, 1)}, code: api.Got, value: 70},
		{what: "Bottom falls below Top before lines 3 and 4", cells: []uint64{5, 6, 70, 80}, q: line(2), steps: []step{load(0, 5), load(1, 6), load(3, 80).After(1, 4), cas(0, 5, 6).After(1, 0)}, code: api.Got, value: 80},
		{what: "the owner pushes before lines 3 and 4", cells: []uint64{0, 1, 70, 80, 90}, q: line(3), steps: []step{load(0, 0), load(1, 1), load(2, 70).After(1, 2), cas(0, 0, 1).After(1, 3)}, code: api.Got, value: 70},

		{what: "the entry changes before lines 1 and 2", cells: []uint64{0, 1, 70, 80}, q: line(2), steps: []step{load(0, 0).After(2, 71), load(1, 1).After(2, 72), load(2, 72), cas(0, 0, 1)}, code: api.Got, value: 72},
		{what: "the entry changes before line 3", cells: []uint64{0, 1, 70, 80}, q: line(2), steps: []step{load(0, 0), load(1, 1), load(2, 71).After(2, 71).After(3, 81), cas(0, 0, 1)}, code: api.Got, value: 71},
		{what: "the entry changes before line 4", cells: []uint64{0, 1, 70, 80}, q: line(2), steps: []step{load(0, 0), load(1, 1), load(2, 70), cas(0, 0, 1).After(2, 71)}, code: api.Got, value: 70},
		{what: "the entry changes before lines 3 and 4", cells: []uint64{0, 1, 70, 80}, q: line(2), steps: []step{load(0, 0), load(1, 1), load(2, top).After(2, top), cas(0, 0, 1).After(2, 71)}, code: api.Got, value: -1},
		{what: "the entry is taken and its place used again before line 4", cells: []uint64{0, 2, 70, 80}, q: line(2), steps: []step{load(0, 0), load(1, 2), load(2, 70), cas(0, 1, 1).After(0, 1).After(2, 71).After(1, 3)}, code: api.Abort},
	}
}

// P10.1: every way through the lines of Steal, on deques of all sizes and capacities.
func TestSteal(t *testing.T) { checkWays(t, lines()) }

// P10.1: indices that begin anywhere, and a size that is a difference modulo 2^64.
func TestIndices(t *testing.T) { checkWays(t, indices()) }

// P10.1 and R7: cells that do not exist or coincide.
func TestCells(t *testing.T) { checkWays(t, places()) }

// P10.1: a value that is loaded is returned as int; there is none together with Abort.
func TestValues(t *testing.T) { checkWays(t, values()) }

// P10.1: what another machine changes between two lines.
func TestOthers(t *testing.T) { checkWays(t, others()) }

// The copy of a machine at each of its lines, and of one that is done, continues independently, whichever goes on first.
func TestCopy(t *testing.T) {
	for _, w := range slices.Concat(lines(), indices(), places(), values(), others()) {
		steptest.CheckCopies(t, w.whole())
	}
}

// The original and its copies go different ways, step by step in turn, if their memories differ.
func TestCopyGoesAnotherWay(t *testing.T) {
	e, x := steptest.Filled([]uint64{0, 1, 70, 80}), thief.Steal(line(2))
	steptest.CheckStep(t, "line 1", e, x, load(0, 0), false)
	y, f := x.Copy(), e.Copy()
	steptest.CheckStep(t, "line 2 of the copy", f, y, load(1, 0).After(1, 0), true)
	steptest.CheckStep(t, "line 2 of the original", e, x, load(1, 1), false)
	steptest.CheckResult(t, "the original while the copy is done", x, 0, 0)
	z, g := x.Copy(), e.Copy()
	steptest.CheckStep(t, "line 3 of the original", e, x, load(2, 71).After(2, 71), false)
	steptest.CheckStep(t, "line 3 of the second copy", g, z, load(2, 72).After(2, 72), false)
	steptest.CheckStep(t, "line 4 of the second copy", g, z, cas(0, 1, 1).After(0, 1), true)
	steptest.CheckResult(t, "the original while the second copy is done", x, 0, 0)
	steptest.CheckStep(t, "line 4 of the original", e, x, cas(0, 0, 1), true)
	steptest.CheckResult(t, "the copy", y, api.Empty, 0)
	steptest.CheckResult(t, "the second copy", z, api.Abort, 0)
	steptest.CheckResult(t, "the original", x, api.Got, 71)
}

// A machine and its copy in one environment are two thieves: one of them gets the entry.
func TestCopyIsAnotherThief(t *testing.T) {
	for i := range 4 {
		e, x := steptest.Filled([]uint64{0, 1, 70, 80}), thief.Steal(line(2))
		machine.Run(e, x, i)
		y := x.Copy()
		machine.Run(e, y, 4)
		steptest.CheckResult(t, "the copy", y, api.Got, 70)
		machine.Run(e, x, 4)
		if i == 0 {
			steptest.CheckResult(t, "the original, which loads Top behind the copy", x, api.Empty, 0)
		} else {
			steptest.CheckResult(t, "the original", x, api.Abort, 0)
		}
	}
}

// R6: a machine that is given to another environment keeps what it has loaded, and accesses the cells of that one.
func TestOtherEnvironment(t *testing.T) {
	x := thief.Steal(line(2))
	steptest.CheckStep(t, "line 1", steptest.Filled([]uint64{1, 8, 70, 80}), x, load(0, 1), false)
	steptest.CheckStep(t, "line 2", steptest.Filled([]uint64{8, 2, 71, 81}), x, load(1, 2), false)
	steptest.CheckStep(t, "line 3", steptest.Filled([]uint64{8, 8, 72, 82}), x, load(3, 82), false)
	steptest.CheckStep(t, "line 4", steptest.Filled([]uint64{1, 0, 73, 83}), x, cas(0, 1, 2), true)
	steptest.CheckStep(t, "a step when it is done", steptest.Filled([]uint64{0, 1, 74, 84}), x, none, true)
	steptest.CheckResult(t, "Steal", x, api.Got, 82)

	// A step without an access for want of cells is a step as well.
	x = thief.Steal(line(2))
	steptest.CheckStep(t, "line 1 without cells", machine.Bare(0), x, none, false)
	steptest.CheckStep(t, "line 2 behind it", steptest.Filled([]uint64{8, 1, 75, 85}), x, load(1, 1), false)
	steptest.CheckStep(t, "line 3 without cells", machine.Bare(0), x, none, false)
	steptest.CheckStep(t, "line 4 behind it", steptest.Filled([]uint64{0, 8, 76, 86}), x, cas(0, 0, 1), true)
	steptest.CheckResult(t, "Steal of an entry that did not exist", x, api.Got, 0)
}

// P10.1 and R2: the deques of an environment that New returned; two machines that are made by equal calls behave equally, and nothing but the cells of the deque is changed.
func TestRealDeque(t *testing.T) {
	c := config.Decode([]byte{2, 3, 0, 4, 2})
	e, err := machine.New(c)
	if err != api.OK {
		t.Fatalf("New returns the error %d", err)
	}
	for range 2 {
		for worker := range c.Workers {
			for level := range c.Levels {
				q := e.Layout.Queue(worker, level)
				for i := range q.Cap {
					machine.Run(e, owner.Push(q, 100*worker+10*level+i), 9)
				}
			}
		}
		f := e.Copy()
		for worker := range c.Workers {
			for level := range c.Levels {
				q := e.Layout.Queue(worker, level)
				for i := range q.Cap {
					x := thief.Steal(q)
					steptest.CheckEqual(t, "Steal from a deque of the layout", e, f, x, thief.Steal(q))
					steptest.CheckResult(t, "Steal from a deque of the layout", x, api.Got, 100*worker+10*level+i)
				}
				x := thief.Steal(q)
				steptest.CheckEqual(t, "Steal from a deque of the layout", e, f, x, thief.Steal(q))
				steptest.CheckResult(t, "Steal from an empty deque of the layout", x, api.Empty, 0)
			}
		}
	}
	// There is no such worker, and no such level: all cells are -1, and there is no place.
	count := e.Memory.Count()
	for _, q := range []api.Queue{e.Layout.Queue(c.Workers, 0), e.Layout.Queue(0, -1)} {
		x := thief.Steal(q)
		if n, done := machine.Run(e, x, 10); n != 2 || !done {
			t.Errorf("Steal without a deque: %d steps, done is %t", n, done)
		}
		steptest.CheckResult(t, "Steal without a deque", x, api.Empty, 0)
	}
	if e.Memory.Count() != count {
		t.Errorf("machines without a deque made %d accesses", e.Memory.Count()-count)
	}
}

// A model performs the lines of the chapter with numbers of any size: it does not know how words wrap.
type model struct {
	q           api.Queue
	line        int
	b, t, v     uint64
	code, value int
}

// number returns a word as a number of any size.
func number(v uint64) *big.Int { return new(big.Int).SetUint64(v) }

// power returns a power of two.
func power(n uint) *big.Int { return new(big.Int).Lsh(big.NewInt(1), n) }

// plus returns the sum of a word and a number, modulo 2^64.
func plus(v uint64, n int64) uint64 {
	sum := new(big.Int).Add(number(v), big.NewInt(n))
	return sum.Mod(sum, power(64)).Uint64()
}

// size returns the size for contents of Bottom and Top.
func size(b, t uint64) *big.Int {
	n := new(big.Int).Mod(new(big.Int).Sub(number(b), number(t)), power(64))
	if n.Cmp(power(63)) >= 0 {
		n.Sub(n, power(64))
	}
	return n
}

// place returns the cell of an index, or -1 if a memory of a few cells does not have it.
func (m *model) place(index uint64, cells []uint64) int {
	if m.q.Cap < 1 {
		return -1
	}
	n := new(big.Int).Mod(number(index), big.NewInt(int64(m.q.Cap)))
	n.Add(n, big.NewInt(int64(m.q.Ring)))
	if n.Sign() < 0 || n.Cmp(big.NewInt(int64(len(cells)))) >= 0 {
		return -1
	}
	return int(n.Int64())
}

// reads returns the access of a load, and what is loaded; none and 0 if the cell does not exist.
func reads(cells []uint64, cell int) (step, uint64) {
	if cell < 0 || cell >= len(cells) {
		return none, 0
	}
	return load(cell, cells[cell]), cells[cell]
}

// done lets the model be done; it has no next line then.
func (m *model) done(code, value int) { m.line, m.code, m.value = 0, code, value }

// step performs the next line on cells, and returns its access.
func (m *model) step(cells []uint64) step {
	var s step
	switch m.line++; m.line - 1 {
	case 1:
		s, m.t = reads(cells, m.q.Top)
	case 2:
		s, m.b = reads(cells, m.q.Bottom)
		if size(m.b, m.t).Sign() <= 0 {
			m.done(api.Empty, 0)
		}
	case 3:
		s, m.v = reads(cells, m.place(m.t, cells))
	default:
		return m.takes(cells)
	}
	return s
}

// takes performs line 4 on cells, and returns its access.
func (m *model) takes(cells []uint64) step {
	s, x := reads(cells, m.q.Top)
	if s.Access == none.Access {
		m.done(api.Abort, 0)
		return none
	}
	if x != m.t {
		m.done(api.Abort, 0)
		return cas(m.q.Top, x, x)
	}
	cells[m.q.Top] = plus(x, 1)
	m.done(api.Got, int(size(m.v, 0).Int64()))
	return cas(m.q.Top, x, cells[m.q.Top])
}

// words returns contents of cells: small ones, and such around 2^63 and 2^64.
func words() []uint64 {
	l := []uint64{1000, 1001}
	for i := range uint64(5) {
		l = append(l, i, half-2+i, top-4+i)
	}
	return l
}

// P10.1 and R1: machines with arguments of all kinds, on cells of all contents, while another machine puts something into cells now and then, do what the model does. Each way through the lines occurs.
func TestModel(t *testing.T) {
	some := steptest.Mixed(9)
	contents := words()
	caps := []int{1, 2, 3, 4, 7, 0, -1, math.MinInt, math.MaxInt}
	rings := []int{2, 2, 2, 2, 3, 0, 5, -1, -3, math.MinInt, math.MaxInt}
	seen := map[string]int{}
	for range 20000 {
		m := model{q: api.Queue{Top: 0, Bottom: 1, Ring: rings[some(len(rings))], Cap: caps[some(len(caps))]}, line: 1}
		if some(10) == 0 {
			m.q.Top, m.q.Bottom = some(8)-2, some(8)-2
		}
		cells := make([]uint64, 6)
		for i := range cells {
			cells[i] = contents[some(len(contents))]
		}
		// Most deques have a few entries.
		if some(5) != 0 {
			cells[1] = plus(cells[0], int64(some(5)-1))
		}
		seen[checkModel(t, m, cells, some)]++
		if t.Failed() {
			return
		}
	}
	for _, way := range []string{"12, Empty", "1234, Got", "1234, Abort"} {
		if seen[way] == 0 {
			t.Errorf("the way %s did not occur, so that it was not tested", way)
		}
		delete(seen, way)
	}
	if len(seen) != 0 {
		t.Errorf("there are other ways: %v", seen)
	}
}

// checkModel checks a machine against its model to the end, and returns the lines of its way with its result.
func checkModel(t *testing.T, m model, cells []uint64, some func(n int) int) string {
	t.Helper()
	w := way{q: m.q, cells: slices.Clone(cells)}
	lines := ""
	for m.line != 0 {
		lines += fmt.Sprint(m.line)
		var puts []steptest.Put
		if some(4) == 0 {
			cell := some(len(cells))
			// Near to what is there: a Top that moves on is the most frequent change.
			puts = append(puts, steptest.Put{Cell: cell, V: plus(cells[cell], int64(some(4)-1))})
			cells[cell] = puts[0].V
		}
		s := m.step(cells)
		s.Puts = puts
		w.steps = append(w.steps, s)
	}
	w.code, w.value = m.code, m.value
	w.what = fmt.Sprintf("%s of %v, cells %v", lines, w.q, w.cells)
	steptest.Check(t, w.whole())
	return lines + ", " + map[int]string{api.Empty: "Empty", api.Got: "Got", api.Abort: "Abort"}[m.code]
}

// A deque whose operations are performed one after another is a list: Push appends, Pop removes the last entry, and Steal the first one, wherever the indices begin.
func TestOneAfterAnother(t *testing.T) {
	for capacity := 1; capacity <= 5; capacity++ {
		for _, begin := range []uint64{0, 1, 4, 99, half - 20, half - 2, half, top - 300} {
			q := line(capacity)
			e := machine.Bare(2 + capacity)
			e.Memory.Store(q.Top, begin)
			e.Memory.Store(q.Bottom, begin)
			var entries []int
			some := steptest.Mixed(uint64(capacity))
			for i := range 200 {
				switch some(4) {
				case 0:
					entries = checkSteal(t, e, q, entries)
				case 1:
					entries = checkPop(t, e, q, entries)
				default:
					entries = checkPush(t, e, q, entries, i)
				}
			}
		}
	}
}

// checkSteal steals from a deque that contains entries, and returns what it contains then.
func checkSteal(t *testing.T, e *machine.Env, q api.Queue, entries []int) []int {
	t.Helper()
	x := thief.Steal(q)
	n, done := machine.Run(e, x, 100)
	steps, code, value, after := 2, api.Empty, 0, entries
	if len(entries) > 0 {
		steps, code, value, after = 4, api.Got, entries[0], entries[1:]
	}
	if n != steps || !done {
		t.Errorf("Steal from %v: %d steps, done is %t, want %d", entries, n, done, steps)
	}
	steptest.CheckResult(t, fmt.Sprintf("Steal from %v", entries), x, code, value)
	return after
}

// checkPop pops an entry of a deque that contains entries, and returns what it contains then.
func checkPop(t *testing.T, e *machine.Env, q api.Queue, entries []int) []int {
	t.Helper()
	x := owner.Pop(q)
	machine.Run(e, x, 9)
	what, last := fmt.Sprintf("Pop of %v", entries), len(entries)-1
	if last < 0 {
		steptest.CheckResult(t, what, x, api.Empty, 0)
		return entries
	}
	steptest.CheckResult(t, what, x, api.Got, entries[last])
	return entries[:last]
}

// checkPush pushes an entry on a deque that contains entries, and returns what it contains then.
func checkPush(t *testing.T, e *machine.Env, q api.Queue, entries []int, entry int) []int {
	t.Helper()
	x := owner.Push(q, entry)
	machine.Run(e, x, 9)
	what := fmt.Sprintf("Push on %v of %d places", entries, q.Cap)
	if len(entries) == q.Cap {
		steptest.CheckResult(t, what, x, api.Full, 0)
		return entries
	}
	steptest.CheckResult(t, what, x, api.Fine, 0)
	return append(slices.Clone(entries), entry)
}

// A result is the code and the value of a machine that is done.
type result struct{ code, value int }

// An actor performs acts one after another. It keeps the accesses of its present machine, on which alone depends what the machine does next; whether this machine has moved Top, and whether another one has done so since its first step; and the results of the acts that are done.
type actor struct {
	acts         []api.Act
	x            machine.Machine
	accesses     string
	moved, beset bool
	results      []result
}

// A scene is actors on a deque, the first of which is its owner, with what was pushed and what was returned.
type scene struct {
	e                *machine.Env
	q                api.Queue
	actors           []actor
	pushed, returned []int
}

// begin returns the machine of an act.
func (s *scene) begin(a api.Act) machine.Machine {
	switch a.Kind {
	case api.OpPush:
		return owner.Push(s.q, a.Value)
	case api.OpPop:
		return owner.Pop(s.q)
	}
	return thief.Steal(s.q)
}

// copy returns a scene that goes on apart.
func (s *scene) copy() *scene {
	c := &scene{s.e.Copy(), s.q, slices.Clone(s.actors), slices.Clone(s.pushed), slices.Clone(s.returned)}
	for i := range c.actors {
		a := &c.actors[i]
		a.results = slices.Clone(a.results)
		if a.x != nil {
			a.x = a.x.Copy()
		}
	}
	return c
}

// key returns a text on which depends all that can follow.
func (s *scene) key() string {
	key := fmt.Sprint(s.e.Memory.Cells())
	for _, a := range s.actors {
		key += fmt.Sprint(len(a.acts), a.accesses, a.moved, a.beset, a.results)
	}
	return key
}

// step lets an actor that has acts left perform a step.
func (s *scene) step(t *testing.T, i int) {
	t.Helper()
	a := &s.actors[i]
	if a.x == nil {
		a.x, a.accesses, a.moved, a.beset = s.begin(a.acts[0]), "", false, false
	}
	done := a.x.Step(s.e)
	last := s.e.Memory.Last()
	a.accesses += fmt.Sprint(last)
	if last.Cell == s.q.Top && last.New != last.Old {
		a.moved = true
		for j := range s.actors {
			s.actors[j].beset = s.actors[j].beset || j != i
		}
	}
	if done {
		s.end(t, i)
	}
}

// end checks the result of the machine of an actor, which is done, and lets the actor go on to its next act.
func (s *scene) end(t *testing.T, i int) {
	t.Helper()
	a := &s.actors[i]
	act := a.acts[0]
	code, value := a.x.Result()
	codes := [][]int{api.OpPush: {api.Fine, api.Full}, api.OpPop: {api.Got, api.Empty}, api.OpSteal: {api.Got, api.Empty, api.Abort}}
	switch {
	case !slices.Contains(codes[act.Kind], code):
		t.Errorf("an act of kind %d is done with the code %d", act.Kind, code)
	case code == api.Got && !slices.Contains(s.pushed, value):
		t.Errorf("%d is returned, but of %v that were pushed", value, s.pushed)
	case code == api.Got && slices.Contains(s.returned, value):
		t.Errorf("%d is returned once more, behind %v", value, s.returned)
	case code != api.Got && value != 0:
		t.Errorf("the value %d with the code %d", value, code)
	case a.moved && code != api.Got:
		t.Errorf("a machine moved Top and is done with the code %d", code)
	case act.Kind == api.OpSteal && code == api.Got && !a.moved:
		t.Error("a Steal that did not move Top got an entry")
	case code == api.Abort && !a.beset:
		t.Error("a Steal is done with Abort though nobody took an entry since its first step")
	case code == api.Got:
		s.returned = append(s.returned, value)
	case code == api.Fine:
		s.pushed = append(s.pushed, act.Value)
	}
	a.results = append(a.results, result{code, value})
	a.acts, a.x = a.acts[1:], nil
}

// checkLeft reports an error if the indices from Top to Bottom - 1 are not those of the entries that were not returned.
func (s *scene) checkLeft(t *testing.T) {
	t.Helper()
	cells := s.e.Memory.Cells()
	var left, want []int
	for i := cells[s.q.Top]; i < cells[s.q.Bottom]; i++ {
		left = append(left, int(cells[s.q.Ring+int(i%uint64(s.q.Cap))]))
	}
	for _, v := range s.pushed {
		if !slices.Contains(s.returned, v) {
			want = append(want, v)
		}
	}
	if !slices.Equal(left, want) {
		t.Errorf("%v are left, want %v: %v were pushed and %v returned", left, want, s.pushed, s.returned)
	}
}

// An explorer plays all orders of the steps of a scene: what was seen needs not be seen again. It calls end for each end that is reached; all machines are done there.
type explorer struct {
	seen map[string]bool
	end  func(s *scene)
}

// explore plays all orders of the steps of a scene.
func explore(t *testing.T, s *scene, end func(s *scene)) {
	t.Helper()
	x := explorer{map[string]bool{}, end}
	x.explore(t, s)
}

// explore lets each actor of a scene perform the next step.
func (x *explorer) explore(t *testing.T, s *scene) {
	t.Helper()
	key := s.key()
	if x.seen[key] || t.Failed() {
		return
	}
	x.seen[key] = true
	over := true
	for i := range s.actors {
		if len(s.actors[i].acts) > 0 {
			over = false
			c := s.copy()
			c.step(t, i)
			x.explore(t, c)
		}
	}
	if over {
		s.checkLeft(t)
		x.end(s)
	}
}

// Acts of actors.
var (
	pop   = api.Act{Kind: api.OpPop}
	steal = api.Act{Kind: api.OpSteal}
)

func push(v int) api.Act { return api.Act{Kind: api.OpPush, Value: v} }

// set returns a scene on a deque whose indices begin with a number, which contains entries already: 1, 2 and so on.
func set(capacity int, begin uint64, entries int, acts ...[]api.Act) *scene {
	s := &scene{e: machine.Bare(2 + capacity), q: line(capacity)}
	s.e.Memory.Store(s.q.Top, begin)
	s.e.Memory.Store(s.q.Bottom, begin)
	for i := range entries {
		machine.Run(s.e, owner.Push(s.q, i+1), 9)
		s.pushed = append(s.pushed, i+1)
	}
	for _, a := range acts {
		s.actors = append(s.actors, actor{acts: a})
	}
	return s
}

// The consequences of P10.1: an owner's Pop and one or two Steals that meet at the last entry. In all orders exactly one of them gets it, and each way of missing it occurs.
func TestLastEntry(t *testing.T) {
	for _, begin := range []uint64{0, 1, half - 1, half, top - 1} {
		seen := map[[2]result]bool{}
		end := func(s *scene) {
			if len(s.returned) != 1 {
				t.Errorf("%d machines got the last entry", len(s.returned))
			}
			seen[[2]result{s.actors[0].results[0], s.actors[1].results[0]}] = true
		}
		explore(t, set(2, begin, 1, []api.Act{pop}, []api.Act{steal}, []api.Act{steal}), end)
		clear(seen)
		explore(t, set(2, begin, 1, []api.Act{pop}, []api.Act{steal}), end)
		for _, w := range [][2]result{{{api.Got, 1}, {api.Empty, 0}}, {{api.Got, 1}, {api.Abort, 0}}, {{api.Empty, 0}, {api.Got, 1}}} {
			if !seen[w] {
				t.Errorf("indices from %d on: no order leads to the results %v", begin, w)
			}
		}
	}
}

// The consequences of P10.1: some of three thieves alone get entries, the oldest ones; the others find none, or are done with Abort.
func TestThievesAlone(t *testing.T) {
	one := []api.Act{steal}
	for entries := range 4 {
		aborts := 0
		explore(t, set(3, 0, entries, nil, one, one, one), func(s *scene) {
			if !slices.Equal(s.returned, s.pushed[:len(s.returned)]) || entries > 0 && len(s.returned) == 0 {
				t.Errorf("three thieves got %v of %v", s.returned, s.pushed)
			}
			for _, a := range s.actors[1:] {
				if a.results[0].code == api.Abort {
					aborts++
				}
			}
		})
		if (aborts > 0) != (entries > 0) {
			t.Errorf("%d entries: %d times Abort", entries, aborts)
		}
	}
}

// The consequences of P10.1: all orders of the steps of an owner and of some thieves.
func TestAllOrders(t *testing.T) {
	one, two := []api.Act{steal}, []api.Act{steal, steal}
	for _, s := range []*scene{
		set(1, 0, 0, []api.Act{push(7), push(8), pop}, two),
		set(1, 3, 1, []api.Act{pop, push(7), push(8)}, one, one),
		set(2, 0, 2, []api.Act{pop, pop}, one, one),
		set(2, half-1, 2, []api.Act{pop, push(7), pop, pop}, two),
		set(2, 0, 2, []api.Act{push(7), pop, push(8), push(9)}, two, one),
		set(3, half-2, 3, []api.Act{pop, pop, pop}, one, one, one),
		set(3, 2, 1, []api.Act{push(7), push(8), pop, pop, pop}, two, one),
	} {
		ends := 0
		explore(t, s, func(*scene) { ends++ })
		if ends < 2 {
			t.Errorf("all orders lead to %d ends", ends)
		}
	}
}

// The consequences of P10.1: many orders of the steps of an owner and of several thieves with many acts.
func TestManyOrders(t *testing.T) {
	for seed := range 60 {
		some := steptest.Mixed(uint64(seed))
		thieves := 1 + some(4)
		acts := make([][]api.Act, thieves+1)
		for i := range 150 {
			if some(5) < 3 {
				acts[0] = append(acts[0], push(100+i))
			} else {
				acts[0] = append(acts[0], pop)
			}
		}
		for i := range thieves {
			acts[i+1] = slices.Repeat([]api.Act{steal}, 300/thieves)
		}
		s := set(1+some(4), uint64(some(9)), 0, acts...)
		for n := 0; n < 4000 && !t.Failed(); n++ {
			// Some actors go on for a while; others wait for long.
			i := some(thieves + 1)
			for range 1 + some(3) {
				if len(s.actors[i].acts) > 0 {
					s.step(t, i)
				}
			}
		}
		for i := range s.actors {
			for len(s.actors[i].acts) > 0 {
				s.step(t, i)
			}
		}
		s.checkLeft(t)
	}
}

// The chapter's examples, and example 2 of the document, whose example 3 is that of TestLastEntry.
func TestExamples(t *testing.T) {
	e, q := machine.Bare(4), line(2)
	machine.Run(e, owner.Push(q, 5), 9)
	machine.Run(e, owner.Push(q, 6), 9)
	f, g := e.Copy(), e.Copy()
	x := thief.Steal(q)
	if n, done := machine.Run(e, x, 100); n != 4 || !done {
		t.Errorf("example 1: %d steps, done is %t, want 4", n, done)
	}
	steptest.CheckResult(t, "example 1", x, api.Got, 5)

	x = thief.Steal(q)
	if n, done := machine.Run(f, x, 3); n != 3 || done {
		t.Errorf("example 2: %d steps, done is %t, want 3", n, done)
	}
	y := thief.Steal(q)
	machine.Run(f, y, 100)
	steptest.CheckResult(t, "example 2, the other thief", y, api.Got, 5)
	if n, done := machine.Run(f, x, 100); n != 1 || !done {
		t.Errorf("example 2: %d more steps, done is %t, want 1", n, done)
	}
	steptest.CheckResult(t, "example 2", x, api.Abort, 0)

	x, y, z := owner.Push(q, 7), owner.Pop(q), thief.Steal(q)
	machine.Run(g, x, 100)
	machine.Run(g, y, 100)
	machine.Run(g, z, 100)
	steptest.CheckResult(t, "the document's example 2, a third push", x, api.Full, 0)
	steptest.CheckResult(t, "the document's example 2, a pop", y, api.Got, 6)
	steptest.CheckResult(t, "the document's example 2, a steal", z, api.Got, 5)
}
