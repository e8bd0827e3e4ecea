package memory_test

import (
	"fmt"
	"math"
	"slices"
	"testing"

	"worksteal/api"
	"worksteal/memory"
)

// A result is what an access returns: a number, or whether a CAS replaced the contents.
type result struct {
	x  uint64
	ok bool
}

// A call is one of the functions that access a cell, with its arguments; old means a CAS alone.
type call struct {
	kind, cell int
	old, v     uint64
}

// String names the call in an error report.
func (c call) String() string {
	switch c.kind {
	case api.AccessLoad:
		return fmt.Sprintf("Load(%d)", c.cell)
	case api.AccessStore:
		return fmt.Sprintf("Store(%d, %#x)", c.cell, c.v)
	case api.AccessCAS:
		return fmt.Sprintf("CAS(%d, %#x, %#x)", c.cell, c.old, c.v)
	case api.AccessOr:
		return fmt.Sprintf("Or(%d, %#x)", c.cell, c.v)
	case api.AccessAnd:
		return fmt.Sprintf("And(%d, %#x)", c.cell, c.v)
	}
	return fmt.Sprintf("Add(%d, %#x)", c.cell, c.v)
}

// perform performs a call.
func perform(m *memory.Memory, c call) result {
	switch c.kind {
	case api.AccessLoad:
		return result{x: m.Load(c.cell)}
	case api.AccessStore:
		m.Store(c.cell, c.v)
		return result{}
	case api.AccessCAS:
		return result{ok: m.CAS(c.cell, c.old, c.v)}
	case api.AccessOr:
		return result{x: m.Or(c.cell, c.v)}
	case api.AccessAnd:
		return result{x: m.And(c.cell, c.v)}
	}
	return result{x: m.Add(c.cell, c.v)}
}

// kinds returns the kinds of all accesses.
func kinds() []int {
	return []int{api.AccessLoad, api.AccessStore, api.AccessCAS, api.AccessOr, api.AccessAnd, api.AccessAdd}
}

// A state is all that a memory tells about itself.
type state struct {
	cells []uint64
	count int
	last  api.Access
}

// stateOf returns the state of a memory.
func stateOf(m *memory.Memory) state {
	return state{m.Cells(), m.Count(), m.Last()}
}

// check reports an error if the state of a memory is not the wanted one.
func check(t *testing.T, what string, m *memory.Memory, want state) {
	t.Helper()
	g := stateOf(m)
	if !slices.Equal(g.cells, want.cells) || g.count != want.count || g.last != want.last {
		t.Errorf("%s: the memory is %v, want %v", what, g, want)
	}
	if m.Size() != len(want.cells) {
		t.Errorf("%s: Size() = %d, want %d", what, m.Size(), len(want.cells))
	}
}

// bits returns the word whose bit i is what f says of bit i of x and of v.
func bits(x, v uint64, f func(a, b bool) bool) uint64 {
	w := uint64(0)
	for i := range 64 {
		if f(x>>i&1 == 1, v>>i&1 == 1) {
			w += 1 << i
		}
	}
	return w
}

// sum returns x + v - 2^64 if the sum reaches 2^64, and else x + v, without a sum that does.
func sum(x, v uint64) uint64 {
	if v > math.MaxUint64-x {
		return v - (math.MaxUint64 - x) - 1
	}
	return x + v
}

// expect changes a state as P2.2 and P2.3 say for a call, and returns the result of the call.
func expect(s *state, c call) result {
	if c.cell < 0 || c.cell >= len(s.cells) {
		return result{}
	}
	x := s.cells[c.cell]
	v, r := x, result{x: x}
	switch c.kind {
	case api.AccessStore:
		v, r = c.v, result{}
	case api.AccessCAS:
		r = result{ok: x == c.old}
		if r.ok {
			v = c.v
		}
	case api.AccessOr:
		v = bits(x, c.v, func(a, b bool) bool { return a || b })
	case api.AccessAnd:
		v = bits(x, c.v, func(a, b bool) bool { return a && b })
	case api.AccessAdd:
		v = sum(x, c.v)
	}
	s.cells[c.cell] = v
	s.count++
	s.last = api.Access{Kind: c.kind, Cell: c.cell, Old: x, New: v}
	return r
}

// mixed returns a function whose calls return numbers that look random; the same seed gives the same ones.
func mixed(seed uint64) func() uint64 {
	return func() uint64 {
		seed = seed*6364136223846793005 + 1442695040888963407
		return seed ^ seed>>29
	}
}

// values returns words at the limits, and small ones that a CAS meets again.
func values() []uint64 {
	return []uint64{0, 1, 2, 3, 44, 1 << 32, 1 << 63, math.MaxInt64, math.MaxUint64 - 1, math.MaxUint64}
}

// someCall returns a call that next chooses; of its cells some are below 0 or from size on.
func someCall(next func() uint64, size int) call {
	pick := func() uint64 {
		l := values()
		if n := next() % uint64(len(l)+2); n < uint64(len(l)) {
			return l[n]
		}
		return next()
	}
	k := kinds()[next()%6]
	return call{k, int(next()%uint64(size+4)) - 2, pick(), pick()}
}

// P2.1, with numbers of cells that are negative, 0, MaxCells and greater.
func TestNew(t *testing.T) {
	for _, c := range []struct{ cells, want int }{
		{0, 0},
		{1, 1},
		{2, 2},
		{1000, 1000},
		{-1, 0},
		{-1000, 0},
		{math.MinInt, 0},
		{api.MaxCells - 1, api.MaxCells - 1},
		{api.MaxCells, api.MaxCells},
		{api.MaxCells + 1, api.MaxCells},
		{math.MaxInt32, api.MaxCells},
		{math.MaxInt, api.MaxCells},
	} {
		m := memory.New(c.cells)
		check(t, fmt.Sprintf("New(%d)", c.cells), m, state{cells: make([]uint64, c.want)})
	}
}

// P2.1: what is done with one memory is not seen in another one.
func TestNewIsFresh(t *testing.T) {
	a := memory.New(4)
	for i := range 4 {
		a.Store(i, uint64(i)+1)
	}
	check(t, "a second New(4)", memory.New(4), state{cells: make([]uint64, 4)})
}

// P2.1: accesses do not change the size.
func TestSizeStays(t *testing.T) {
	for _, size := range []int{0, 1, 3, api.MaxCells} {
		m := memory.New(size)
		for _, k := range kinds() {
			for _, cell := range []int{-1, 0, size - 1, size, size + 1} {
				perform(m, call{k, cell, 0, 1})
				if g := m.Size(); g != size {
					t.Errorf("after %v: Size() = %d, want %d", call{k, cell, 0, 1}, g, size)
				}
			}
		}
	}
}

// P2.2 and P2.3: what each function returns, and leaves in the cell; a CAS whose numbers are equal, and sums that pass 2^64.
func TestAccess(t *testing.T) {
	const top = uint64(math.MaxUint64)
	for _, c := range []struct {
		before uint64
		call   call
		want   result
		after  uint64
	}{
		{0, call{kind: api.AccessLoad}, result{}, 0},
		{7, call{kind: api.AccessLoad}, result{x: 7}, 7},
		{top, call{kind: api.AccessLoad}, result{x: top}, top},

		{0, call{kind: api.AccessStore, v: 9}, result{}, 9},
		{7, call{kind: api.AccessStore, v: 0}, result{}, 0},
		{7, call{kind: api.AccessStore, v: 7}, result{}, 7},
		{1, call{kind: api.AccessStore, v: top}, result{}, top},

		{5, call{kind: api.AccessCAS, old: 5, v: 9}, result{ok: true}, 9},
		{9, call{kind: api.AccessCAS, old: 5, v: 7}, result{}, 9},
		{9, call{kind: api.AccessCAS, old: 8, v: 9}, result{}, 9},
		{5, call{kind: api.AccessCAS, old: 5, v: 5}, result{ok: true}, 5},
		{6, call{kind: api.AccessCAS, old: 5, v: 5}, result{}, 6},
		{0, call{kind: api.AccessCAS, old: 0, v: 0}, result{ok: true}, 0},
		{0, call{kind: api.AccessCAS, old: 0, v: 1}, result{ok: true}, 1},
		{1, call{kind: api.AccessCAS, old: 0, v: 2}, result{}, 1},
		{0, call{kind: api.AccessCAS, old: 1, v: 2}, result{}, 0},
		{top, call{kind: api.AccessCAS, old: top, v: 0}, result{ok: true}, 0},
		{top, call{kind: api.AccessCAS, old: top >> 1, v: 0}, result{}, top},

		{12, call{kind: api.AccessOr, v: 3}, result{x: 12}, 15},
		{12, call{kind: api.AccessOr, v: 6}, result{x: 12}, 14},
		{12, call{kind: api.AccessOr, v: 0}, result{x: 12}, 12},
		{0, call{kind: api.AccessOr, v: 1 << 63}, result{}, 1 << 63},
		{1, call{kind: api.AccessOr, v: top}, result{x: 1}, top},

		{15, call{kind: api.AccessAnd, v: 6}, result{x: 15}, 6},
		{12, call{kind: api.AccessAnd, v: 6}, result{x: 12}, 4},
		{12, call{kind: api.AccessAnd, v: 0}, result{x: 12}, 0},
		{12, call{kind: api.AccessAnd, v: 3}, result{x: 12}, 0},
		{top, call{kind: api.AccessAnd, v: 1 << 63}, result{x: top}, 1 << 63},
		{12, call{kind: api.AccessAnd, v: top}, result{x: 12}, 12},

		{0, call{kind: api.AccessAdd, v: 5}, result{}, 5},
		{6, call{kind: api.AccessAdd, v: 6}, result{x: 6}, 12},
		{6, call{kind: api.AccessAdd, v: 0}, result{x: 6}, 6},
		{6, call{kind: api.AccessAdd, v: top}, result{x: 6}, 5},
		{top, call{kind: api.AccessAdd, v: 1}, result{x: top}, 0},
		{top, call{kind: api.AccessAdd, v: top}, result{x: top}, top - 1},
		{1 << 63, call{kind: api.AccessAdd, v: 1 << 63}, result{x: 1 << 63}, 0},
		{math.MaxInt64, call{kind: api.AccessAdd, v: 1}, result{x: math.MaxInt64}, 1 << 63},
	} {
		for cell := range 3 {
			m := memory.New(3)
			cells := []uint64{20, 21, 22}
			for i, x := range cells {
				m.Store(i, x)
			}
			m.Store(cell, c.before)
			c.call.cell = cell
			cells[cell] = c.after
			what := fmt.Sprintf("%v of %#x", c.call, c.before)
			if g := perform(m, c.call); g != c.want {
				t.Errorf("%s returns %v, want %v", what, g, c.want)
			}
			check(t, what, m, state{cells, 5, api.Access{Kind: c.call.kind, Cell: cell, Old: c.before, New: c.after}})
		}
	}
}

// P2.2 and P2.3 for cells that do not exist: nothing is returned or changed, before the first access and after it.
func TestNoCell(t *testing.T) {
	for _, size := range []int{0, 1, 3, api.MaxCells} {
		for _, k := range kinds() {
			for _, cell := range []int{-1, -2, -size - 1, math.MinInt, size, size + 1, api.MaxCells, math.MaxInt} {
				m := memory.New(size)
				for _, c := range []call{{k, cell, 0, 0}, {k, cell, 0, 1}, {k, cell, 1, 2}, {k, cell, math.MaxUint64, math.MaxUint64}} {
					if g := perform(m, c); g != (result{}) {
						t.Errorf("%v in %d cells returns %v", c, size, g)
					}
				}
				if m.Count() != 0 || m.Last() != (api.Access{}) || m.Peek(cell) != 0 {
					t.Errorf("%v in %d cells is an access: Count %d, Last %v, Peek %d", call{kind: k, cell: cell}, size, m.Count(), m.Last(), m.Peek(cell))
				}
			}
		}
	}
}

// P2.2 and P2.3: a call for a cell that does not exist leaves the last access of another one, and all cells.
func TestNoCellAfterAccess(t *testing.T) {
	for _, k := range kinds() {
		for _, cell := range []int{-1, 3, math.MinInt, math.MaxInt} {
			m := memory.New(3)
			m.Store(0, 5)
			m.Add(2, 7)
			want := stateOf(m)
			for _, c := range []call{{k, cell, 0, 1}, {k, cell, 5, 1}, {k, cell, 7, math.MaxUint64}} {
				if g := perform(m, c); g != (result{}) {
					t.Errorf("%v returns %v", c, g)
				}
				check(t, c.String(), m, want)
			}
		}
	}
}

// P2.2 to P2.4: long lists of calls of all kinds, after each of which the memory is what the promises say.
func TestAccesses(t *testing.T) {
	for size := range 5 {
		next := mixed(uint64(size))
		m, want := memory.New(size), state{cells: make([]uint64, size)}
		for range 2000 {
			c := someCall(next, size)
			w := expect(&want, c)
			if g := perform(m, c); g != w {
				t.Fatalf("%v of %d cells returns %v, want %v", c, size, g, w)
			}
			check(t, c.String(), m, want)
			if t.Failed() {
				return
			}
		}
	}
}

// P2.2 for the last cells of the greatest memory.
func TestLastCells(t *testing.T) {
	m := memory.New(math.MaxInt)
	m.Store(api.MaxCells-1, 8)
	m.Store(api.MaxCells, 9)
	if g := m.Load(api.MaxCells - 1); g != 8 {
		t.Errorf("the last cell contains %d, want 8", g)
	}
	if g := m.Load(api.MaxCells); g != 0 || m.Count() != 2 {
		t.Errorf("the cell behind the last one contains %d, Count %d", g, m.Count())
	}
}

// P2.3: before the first access Count is 0 and Last the zero value; Peek, Cells, Size and Copy are none.
func TestBeforeFirstAccess(t *testing.T) {
	m := memory.New(2)
	for range 2 {
		check(t, "no access", m, state{cells: []uint64{0, 0}})
		m.Peek(0)
		m.Peek(2)
		m.Cells()
		m.Copy()
	}
	check(t, "a copy without an access", m.Copy(), state{cells: []uint64{0, 0}})
	m.Load(0)
	check(t, "the first access", m, state{[]uint64{0, 0}, 1, api.Access{Kind: api.AccessLoad}})
}

// P2.3: Last is a value; a later access does not change the one that was returned.
func TestLastIsValue(t *testing.T) {
	m := memory.New(1)
	m.Store(0, 4)
	a := m.Last()
	m.Add(0, 1)
	if want := (api.Access{Kind: api.AccessStore, Old: 0, New: 4}); a != want {
		t.Errorf("Last() became %v, want %v", a, want)
	}
}

// P2.4 for Peek, with cells that do not exist; it is not an access.
func TestPeek(t *testing.T) {
	m := memory.New(3)
	m.Store(0, 5)
	m.Store(2, math.MaxUint64)
	want := stateOf(m)
	for _, c := range []struct {
		cell int
		want uint64
	}{{0, 5}, {1, 0}, {2, math.MaxUint64}, {3, 0}, {4, 0}, {-1, 0}, {-3, 0}, {math.MinInt, 0}, {math.MaxInt, 0}} {
		if g := m.Peek(c.cell); g != c.want {
			t.Errorf("Peek(%d) = %d, want %d", c.cell, g, c.want)
		}
		check(t, "Peek", m, want)
	}
	if g := memory.New(0).Peek(0); g != 0 {
		t.Errorf("Peek(0) without cells = %d", g)
	}
}

// P2.4 for Cells: all cells in order, in a list of their own, which the caller may change and which does not change by itself.
func TestCells(t *testing.T) {
	m := memory.New(3)
	for i := range 3 {
		m.Store(i, uint64(10+i))
	}
	want := stateOf(m)
	a, b := m.Cells(), m.Cells()
	a[0], a[2] = 99, 98
	_ = append(a[:1], 97)
	check(t, "the caller changed its list", m, want)
	if !slices.Equal(b, want.cells) {
		t.Errorf("a list that was not changed is %v, want %v", b, want.cells)
	}
	m.Store(1, 50)
	if !slices.Equal(b, want.cells) {
		t.Errorf("a Store changed a list that was returned to %v, want %v", b, want.cells)
	}
	if g := memory.New(0).Cells(); len(g) != 0 {
		t.Errorf("Cells without cells = %v", g)
	}
}

// P2.4 for Copy: the copy is equal; then the original, the copy and a copy of the copy go on apart.
func TestCopy(t *testing.T) {
	m := memory.New(3)
	m.Store(1, 7)
	m.CAS(1, 7, 8)
	start := state{[]uint64{0, 8, 0}, 2, api.Access{Kind: api.AccessCAS, Cell: 1, Old: 7, New: 8}}
	x := m.Copy()
	y := x.Copy()
	check(t, "the copy", x, start)
	m.Add(1, 1)
	check(t, "the original went on", m, state{[]uint64{0, 9, 0}, 3, api.Access{Kind: api.AccessAdd, Cell: 1, Old: 8, New: 9}})
	check(t, "its copy", x, start)
	x.Or(2, 6)
	x.Load(1)
	check(t, "the copy went on", x, state{[]uint64{0, 8, 6}, 4, api.Access{Kind: api.AccessLoad, Cell: 1, Old: 8, New: 8}})
	check(t, "its original", m, state{[]uint64{0, 9, 0}, 3, api.Access{Kind: api.AccessAdd, Cell: 1, Old: 8, New: 9}})
	check(t, "the copy of the copy", y, start)
	check(t, "a copy without cells", memory.New(-1).Copy(), state{})
}

// P2.4 and R2: a copy in the same state returns the same for the same calls, at any time.
func TestCopyContinues(t *testing.T) {
	next := mixed(11)
	m := memory.New(3)
	for range 50 {
		x := m.Copy()
		l := make([]call, 20)
		for i := range l {
			l[i] = someCall(next, 3)
		}
		var first []result
		for _, c := range l {
			first = append(first, perform(m, c))
		}
		for i, c := range l {
			if g := perform(x, c); g != first[i] {
				t.Fatalf("%v of the copy returns %v, of the original %v", c, g, first[i])
			}
		}
		check(t, "the copy after the same calls", x, stateOf(m))
	}
}

// The chapter's first example.
func TestExampleCAS(t *testing.T) {
	m := memory.New(2)
	if g := m.Add(1, 5); g != 0 {
		t.Errorf("Add(1, 5) = %d, want 0", g)
	}
	if !m.CAS(1, 5, 9) {
		t.Error("CAS(1, 5, 9) is false")
	}
	if m.CAS(1, 5, 7) {
		t.Error("CAS(1, 5, 7) is true")
	}
	check(t, "example 1", m, state{[]uint64{0, 9}, 3, api.Access{Kind: api.AccessCAS, Cell: 1, Old: 9, New: 9}})
}

// The chapter's second example.
func TestExampleStore(t *testing.T) {
	m := memory.New(2)
	m.Store(2, 1)
	check(t, "example 2", m, state{cells: []uint64{0, 0}})
}
