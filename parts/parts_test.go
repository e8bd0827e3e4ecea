package parts_test

import (
	"math"
	"testing"

	"worksteal/api"
	"worksteal/machine"
	"worksteal/parts"
)

// checkLines reports an error if lines do not have a next line and a result.
func checkLines(t *testing.T, what string, l parts.Lines, line, code, value int) {
	t.Helper()
	if c, v := l.Result(); l.Line() != line || c != code || v != value {
		t.Errorf("%s: line %d and the result %d, %d, want %d and %d, %d", what, l.Line(), c, v, line, code, value)
	}
}

// Lines go from the first one to others, and have a result at the end alone.
func TestLines(t *testing.T) {
	l := parts.Begin()
	checkLines(t, "at first", l, 1, 0, 0)
	if l.Next(7) {
		t.Error("Next returns true")
	}
	checkLines(t, "behind Next", l, 7, 0, 0)
	c := l
	if !l.End(api.Got, -5) {
		t.Error("End returns false")
	}
	checkLines(t, "behind End", l, 0, api.Got, -5)
	checkLines(t, "the copy", c, 7, 0, 0)
	checkLines(t, "the zero value", parts.Lines{}, 0, 0, 0)
}

// The lines of a machine on a deque, and what it loads of the cells of the deque.
func TestDeque(t *testing.T) {
	e := machine.Bare(4)
	e.Memory.Store(2, 5)
	e.Memory.Store(3, 8)
	d := parts.On(api.Queue{Top: 2, Bottom: 3, Ring: 9, Cap: 4})
	checkLines(t, "at first", d.Lines, 1, 0, 0)
	count := e.Memory.Count()
	d.LoadBottom(e)
	if g := (api.Access{Kind: api.AccessLoad, Cell: 3, Old: 8, New: 8}); e.Memory.Last() != g || d.B != 8 || d.T != 0 {
		t.Errorf("LoadBottom: %v, the contents %d and %d", e.Memory.Last(), d.B, d.T)
	}
	d.LoadTop(e)
	if g := (api.Access{Kind: api.AccessLoad, Cell: 2, Old: 5, New: 5}); e.Memory.Last() != g || d.B != 8 || d.T != 5 {
		t.Errorf("LoadTop: %v, the contents %d and %d", e.Memory.Last(), d.B, d.T)
	}
	if g := e.Memory.Count() - count; g != 2 {
		t.Errorf("two loads made %d accesses", g)
	}
	checkLines(t, "behind the loads", d.Lines, 1, 0, 0)
}

// The size is a difference modulo 2^64, from -2^63 to 2^63 - 1.
func TestSize(t *testing.T) {
	const half, top = 1 << 63, math.MaxUint64
	for _, x := range []struct {
		b, t uint64
		want int
	}{
		{0, 0, 0}, {8, 5, 3}, {5, 8, -3}, {half, half - 1, 1}, {half - 1, half, -1}, {0, top, 1}, {top, 0, -1}, {2, top - 1, 4},
		{half - 1, 0, math.MaxInt}, {half, 0, math.MinInt}, {0, half, math.MinInt}, {0, half + 1, math.MaxInt},
	} {
		d := parts.Deque{T: x.t}
		if g := d.Size(x.b); g != x.want {
			t.Errorf("the size for %d and %d is %d, want %d", x.b, x.t, g, x.want)
		}
	}
}

// The cell of an index is in the ring; it is -1 if the ring has no place, and negative beyond the greatest int.
func TestCellOf(t *testing.T) {
	const half, top = 1 << 63, math.MaxUint64
	for _, x := range []struct {
		ring, capacity int
		index          uint64
		want           int
	}{
		{2, 3, 0, 2}, {2, 3, 2, 4}, {2, 3, 3, 2}, {2, 3, half, 4}, {2, 4, top, 5}, {-2, 9, 1, -1}, {-2, 9, 4, 2}, {7, 1, top, 7},
		{2, 0, 5, -1}, {2, -1, 5, -1}, {0, math.MinInt, 5, -1}, {2, math.MaxInt, half - 3, math.MaxInt}, {2, math.MaxInt, half - 2, math.MinInt},
	} {
		d := parts.On(api.Queue{Ring: x.ring, Cap: x.capacity})
		if g := d.CellOf(x.index); g != x.want {
			t.Errorf("the cell of index %d with the ring %d and %d places is %d, want %d", x.index, x.ring, x.capacity, g, x.want)
		}
	}
}
