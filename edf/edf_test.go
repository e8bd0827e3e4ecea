package edf_test

import (
	"fmt"
	"math"
	"slices"
	"testing"

	"worksteal/edf"
)

// Keys at the limits, and around the place where a key that is taken for a signed number becomes negative.
const (
	half = 1 << 63
	top  = math.MaxUint64
)

// keys returns keys as a list.
func keys(l ...uint64) []uint64 { return l }

// mixed returns a function whose calls return numbers from 0 to n - 1 that look random; the same seed gives the same ones.
func mixed(seed uint64) func(n int) int {
	return func(n int) int {
		seed = seed*6364136223846793005 + 1442695040888963407
		return int(seed >> 33 % uint64(n))
	}
}

// within returns a list with the elements of l that is a part of a longer one, with room behind its end, and this longer one.
func within(l []uint64) (part, whole []uint64) {
	whole = slices.Concat(keys(71, 0), l, keys(72, 0, top, 73, 74))
	return whole[2 : 2+len(l)], whole
}

// fill puts x into every place of a list, and into those behind its end as far as there is room.
func fill(l []uint64, x uint64) {
	for i := range l[:cap(l)] {
		l[:cap(l)][i] = x
	}
}

// checkCall reports an error if a call does not return what it must for l, or does not keep R2 and R3: what it is given stays as it is, also behind its end, and equal calls return equal lists that share no memory with it or with each other.
func checkCall(t *testing.T, what string, call func([]uint64) []uint64, l, want []uint64) {
	t.Helper()
	part, whole := within(l)
	before := slices.Clone(whole)
	a, b := call(part), call(part)
	if !slices.Equal(a, want) || !slices.Equal(b, want) {
		t.Errorf("%s: %v and again %v, want %v", what, a, b, want)
		return
	}
	fill(a, 99)
	if !slices.Equal(whole, before) {
		t.Errorf("%s: the list in %v became %v", what, before, whole)
	}
	fill(whole, 98)
	if !slices.Equal(b, want) {
		t.Errorf("%s: a list that was returned before became %v, want %v", what, b, want)
	}
	if len(l) > 0 {
		return
	}
	if g := call(nil); !slices.Equal(g, want) {
		t.Errorf("%s, with nil: %v, want %v", what, g, want)
	}
}

// checkPush reports an error if Push of k does not return what it must.
func checkPush(t *testing.T, h []uint64, k uint64, want []uint64) {
	t.Helper()
	checkCall(t, fmt.Sprintf("Push(%v, %d)", h, k), func(l []uint64) []uint64 { return edf.Push(l, k) }, h, want)
}

// checkPop reports an error if Pop does not return what it must.
func checkPop(t *testing.T, h []uint64, first uint64, rest []uint64, ok bool) {
	t.Helper()
	what := fmt.Sprintf("Pop(%v)", h)
	checkCall(t, what, func(l []uint64) []uint64 {
		k, r, is := edf.Pop(l)
		if k != first || is != ok {
			t.Errorf("%s = %d, %v, %t, want %d and %t", what, k, r, is, first, ok)
		}
		return r
	}, h, rest)
}

// checkValid reports an error if Valid does not return what it must, or changes the list.
func checkValid(t *testing.T, h []uint64, want bool) {
	t.Helper()
	part, whole := within(h)
	before := slices.Clone(whole)
	for range 2 {
		if g := edf.Valid(part); g != want {
			t.Errorf("Valid(%v) = %t, want %t", h, g, want)
		}
	}
	if !slices.Equal(whole, before) {
		t.Errorf("Valid: the list in %v became %v", before, whole)
	}
	if len(h) == 0 && edf.Valid(nil) != want {
		t.Errorf("Valid(nil) = %t, want %t", !want, want)
	}
}

// checkSorted reports an error if Sorted does not return what it must.
func checkSorted(t *testing.T, l, want []uint64) {
	t.Helper()
	checkCall(t, fmt.Sprintf("Sorted(%v)", l), edf.Sorted, l, want)
}

// The plain functions count places from 1, so that the children of place n are 2 n and 2 n + 1, and its parent is n / 2.

// plainPush returns what P14.1 says for Push: of the elements above the new last place, those next to it that are greater than k move down by one place of the path, as many as come one after another.
func plainPush(h []uint64, k uint64) []uint64 {
	l := append(slices.Clone(h), 0)
	var path []int
	for n := len(l); n >= 1; n /= 2 {
		path = append(path, n)
	}
	above := path[1:]
	moved := slices.IndexFunc(above, func(n int) bool { return h[n-1] <= k })
	if moved < 0 {
		moved = len(above)
	}
	for j, n := range above[:moved] {
		l[path[j]-1] = h[n-1]
	}
	l[path[moved]-1] = k
	return l
}

// plainPop returns what P14.2 says for the list that remains, if there are at least two elements: below the first place, lesser children make a path; those at its beginning that are less than the last element move up by one place of the path, as many as come one after another.
func plainPop(h []uint64) []uint64 {
	last := h[len(h)-1]
	h = h[:len(h)-1]
	at := func(n int) uint64 { return h[n-1] }
	path := []int{1}
	for n := 2; n <= len(h); n *= 2 {
		if n+1 <= len(h) && at(n+1) < at(n) {
			n++
		}
		path = append(path, n)
	}
	below := path[1:]
	moved := slices.IndexFunc(below, func(n int) bool { return at(n) >= last })
	if moved < 0 {
		moved = len(below)
	}
	l := slices.Clone(h)
	for j, n := range below[:moved] {
		l[path[j]-1] = at(n)
	}
	l[path[moved]-1] = last
	return l
}

// plainValid returns what P14.3 says for Valid, looking at the children of each element.
func plainValid(h []uint64) bool {
	for n := 1; n <= len(h); n++ {
		for child := 2 * n; child <= 2*n+1 && child <= len(h); child++ {
			if h[child-1] < h[n-1] {
				return false
			}
		}
	}
	return true
}

// counts returns how many of each element a list has.
func counts(l []uint64) map[uint64]int {
	m := map[uint64]int{}
	for _, x := range l {
		m[x]++
	}
	return m
}

// lists calls f with every list of at most n of the elements of an alphabet.
func lists(alphabet []uint64, n int, f func([]uint64)) {
	var extend func(l []uint64)
	extend = func(l []uint64) {
		f(l)
		if len(l) == n {
			return
		}
		for _, x := range alphabet {
			extend(append(slices.Clone(l), x))
		}
	}
	extend(nil)
}

// shapes returns lists of n elements of many shapes: ascending, descending, equal, with few and with many different elements, heaps and others.
func shapes(n int) [][]uint64 {
	next := mixed(uint64(n))
	l := make([][]uint64, 7)
	for i := range n {
		l[0] = append(l[0], uint64(i))
		l[1] = append(l[1], top-uint64(i))
		l[2] = append(l[2], half)
		l[3] = append(l[3], half-uint64(n/2)+uint64(i))
		l[4] = append(l[4], uint64(next(3))<<62)
		l[5] = append(l[5], uint64(next(1<<31))<<33)
		l[6] = append(l[6], uint64(i/2)+uint64(next(2)))
	}
	return l
}

// P14.1, with each kind of list and of way of the key written out.
func TestPush(t *testing.T) {
	for _, c := range []struct {
		h    []uint64
		k    uint64
		want []uint64
	}{
		// the empty list
		{nil, 0, keys(0)},
		{keys(), 7, keys(7)},
		{keys(), half, keys(half)},
		{keys(), top, keys(top)},
		// one element: k stays, is equal, moves
		{keys(5), 9, keys(5, 9)},
		{keys(5), 5, keys(5, 5)},
		{keys(5), 4, keys(4, 5)},
		{keys(5), 0, keys(0, 5)},
		// two elements: the first one is the parent again
		{keys(5, 8), 6, keys(5, 8, 6)},
		{keys(5, 8), 9, keys(5, 8, 9)},
		{keys(5, 8), 5, keys(5, 8, 5)},
		{keys(5, 8), 4, keys(4, 8, 5)},
		// three elements: the second one is the parent
		{keys(5, 7, 9), 8, keys(5, 7, 9, 8)},
		{keys(5, 7, 9), 7, keys(5, 7, 9, 7)},
		{keys(5, 7, 9), 6, keys(5, 6, 9, 7)},
		{keys(5, 7, 9), 5, keys(5, 5, 9, 7)},
		{keys(5, 7, 9), 4, keys(4, 5, 9, 7)},
		// four, five and six elements: second and first children of the second and the third place
		{keys(5, 7, 9, 8), 6, keys(5, 6, 9, 8, 7)},
		{keys(5, 7, 9, 8, 10), 8, keys(5, 7, 8, 8, 10, 9)},
		{keys(5, 7, 9, 8, 10, 11), 4, keys(4, 7, 5, 8, 10, 11, 9)},
		// a long path: 0, 2, 5, 12
		{keys(1, 2, 4, 3, 5, 6, 7, 8, 9, 10, 11, 12), 9, keys(1, 2, 4, 3, 5, 6, 7, 8, 9, 10, 11, 12, 9)},
		{keys(1, 2, 4, 3, 5, 6, 7, 8, 9, 10, 11, 12), 6, keys(1, 2, 4, 3, 5, 6, 7, 8, 9, 10, 11, 12, 6)},
		{keys(1, 2, 4, 3, 5, 6, 7, 8, 9, 10, 11, 12), 5, keys(1, 2, 4, 3, 5, 5, 7, 8, 9, 10, 11, 12, 6)},
		{keys(1, 2, 4, 3, 5, 6, 7, 8, 9, 10, 11, 12), 4, keys(1, 2, 4, 3, 5, 4, 7, 8, 9, 10, 11, 12, 6)},
		{keys(1, 2, 4, 3, 5, 6, 7, 8, 9, 10, 11, 12), 3, keys(1, 2, 3, 3, 5, 4, 7, 8, 9, 10, 11, 12, 6)},
		{keys(1, 2, 4, 3, 5, 6, 7, 8, 9, 10, 11, 12), 1, keys(1, 2, 1, 3, 5, 4, 7, 8, 9, 10, 11, 12, 6)},
		{keys(1, 2, 4, 3, 5, 6, 7, 8, 9, 10, 11, 12), 0, keys(0, 2, 1, 3, 5, 4, 7, 8, 9, 10, 11, 12, 6)},
		// equal elements all along the path
		{keys(3, 3, 3, 3, 3, 3, 3), 3, keys(3, 3, 3, 3, 3, 3, 3, 3)},
		{keys(3, 3, 3, 3, 3, 3, 3), 2, keys(2, 3, 3, 3, 3, 3, 3, 3)},
		// keys at the limits
		{keys(0), 0, keys(0, 0)},
		{keys(half), 0, keys(0, half)},
		{keys(half), half - 1, keys(half-1, half)},
		{keys(half), half, keys(half, half)},
		{keys(half), half + 1, keys(half, half+1)},
		{keys(half - 1), half, keys(half-1, half)},
		{keys(0), half, keys(0, half)},
		{keys(0), top, keys(0, top)},
		{keys(top), 0, keys(0, top)},
		{keys(top), half, keys(half, top)},
		{keys(top), top - 1, keys(top-1, top)},
		{keys(top), top, keys(top, top)},
		{keys(0, half, top), half - 1, keys(0, half-1, top, half)},
		// lists that are no heaps: k stops at the first parent that is not greater, although a greater one is above it
		{keys(9, 1), 5, keys(5, 1, 9)},
		{keys(9, 1, 2), 5, keys(9, 1, 2, 5)},
		{keys(9, 1, 2), 1, keys(9, 1, 2, 1)},
		{keys(9, 1, 2), 0, keys(0, 9, 2, 1)},
		{keys(1, 9, 8), 5, keys(1, 5, 8, 9)},
		{keys(2, 8, 1, 7, 6, 5, 4), 3, keys(2, 3, 1, 8, 6, 5, 4, 7)},
		{keys(9, 3, 1, 7, 6, 5, 4), 5, keys(9, 3, 1, 5, 6, 5, 4, 7)},
		{keys(4, 9, 1, 5, 6, 2, 3), 4, keys(4, 4, 1, 9, 6, 2, 3, 5)},
	} {
		checkPush(t, c.h, c.k, c.want)
	}
}

// P14.2, with each kind of list and of way of the last element written out.
func TestPop(t *testing.T) {
	checkPop(t, nil, 0, nil, false)
	checkPop(t, keys(), 0, nil, false)
	for _, c := range []struct {
		h     []uint64
		first uint64
		rest  []uint64
	}{
		// one element
		{keys(8), 8, nil},
		{keys(0), 0, nil},
		{keys(half), half, nil},
		{keys(top), top, nil},
		// two and three elements
		{keys(1, 2), 1, keys(2)},
		{keys(2, 2), 2, keys(2)},
		{keys(1, 2, 3), 1, keys(2, 3)},
		{keys(1, 3, 2), 1, keys(2, 3)},
		{keys(1, 2, 2), 1, keys(2, 2)},
		// two children: the first one is the lesser one, the second one, and equal ones
		{keys(1, 2, 3, 9), 1, keys(2, 9, 3)},
		{keys(1, 3, 2, 9), 1, keys(2, 3, 9)},
		{keys(1, 2, 2, 9), 1, keys(2, 9, 2)},
		{keys(1, 2, 2, 9, 9, 9), 1, keys(2, 9, 2, 9, 9)},
		// the same below the first place: the second of the children of place 1, of place 2, and equal ones
		{keys(1, 2, 4, 6, 5, 8, 9, 7), 1, keys(2, 5, 4, 6, 7, 8, 9)},
		{keys(1, 5, 2, 6, 7, 3, 4), 1, keys(2, 5, 3, 6, 7, 4)},
		{keys(1, 5, 2, 6, 7, 4, 3, 8), 1, keys(2, 5, 3, 6, 7, 4, 8)},
		{keys(1, 5, 2, 6, 7, 3, 3, 8), 1, keys(2, 5, 3, 6, 7, 8, 3)},
		// one child alone, in the last place that remains: it moves, is equal, is greater
		{keys(1, 2, 9, 3, 5), 1, keys(2, 3, 9, 5)},
		{keys(1, 2, 9, 5, 5), 1, keys(2, 5, 9, 5)},
		{keys(1, 2, 9, 6, 5), 1, keys(2, 5, 9, 6)},
		{keys(1, 7, 2, 8, 9, 3, 5), 1, keys(2, 7, 3, 8, 9, 5)},
		// the last element stays at the first place
		{keys(1, 2, 9, 3, 2), 1, keys(2, 2, 9, 3)},
		{keys(1, 4, 5, 3), 1, keys(3, 4, 5)},
		// it moves to the middle, past one and past two elements
		{keys(1, 2, 3, 8, 9, 10, 11, 4), 1, keys(2, 4, 3, 8, 9, 10, 11)},
		{keys(1, 2, 3, 4, 9, 10, 11, 12, 13, 14, 15, 5), 1, keys(2, 4, 3, 5, 9, 10, 11, 12, 13, 14, 15)},
		// it moves to the end of its path
		{keys(1, 2, 3, 4, 9, 10, 11, 12, 13, 14, 15, 16), 1, keys(2, 4, 3, 12, 9, 10, 11, 16, 13, 14, 15)},
		{keys(1, 2, 3, 4, 9, 10, 11, 13, 12, 14, 15, 16), 1, keys(2, 4, 3, 12, 9, 10, 11, 13, 16, 14, 15)},
		// a child that is equal to the last element, of the first place and further down
		{keys(1, 3, 4, 3), 1, keys(3, 3, 4)},
		{keys(1, 4, 3, 5, 6, 3), 1, keys(3, 4, 3, 5, 6)},
		{keys(1, 2, 3, 4, 6, 5, 7, 4), 1, keys(2, 4, 3, 4, 6, 5, 7)},
		{keys(3, 3, 3, 3, 3, 3, 3), 3, keys(3, 3, 3, 3, 3, 3)},
		// keys near the limits
		{keys(0, half, half-1, top), 0, keys(half-1, half, top)},
		{keys(0, half-1, half, top), 0, keys(half-1, top, half)},
		{keys(0, half, top, half-1), 0, keys(half-1, half, top)},
		{keys(0, half-1, top, half), 0, keys(half-1, half, top)},
		{keys(half, half, half+1, half), half, keys(half, half, half+1)},
		{keys(half-1, top-1, half, top), half - 1, keys(half, top-1, top)},
		{keys(0, top, top-1, top), 0, keys(top-1, top, top)},
		{keys(top, top, top, top), top, keys(top, top, top)},
		{keys(0, 0, 0, 0), 0, keys(0, 0, 0)},
		// lists that are no heaps: the first element is returned, and the last one stops at the first place whose children are not less, although lesser ones are below them
		{keys(9, 3), 9, keys(3)},
		{keys(9, 3, 1, 2), 9, keys(1, 3, 2)},
		{keys(9, 8, 7, 1, 2, 3, 4, 5), 9, keys(5, 8, 7, 1, 2, 3, 4)},
		{keys(9, 4, 7, 6, 8, 1, 2, 5), 9, keys(4, 5, 7, 6, 8, 1, 2)},
		{keys(9, 4, 7, 3, 8, 1, 2, 5), 9, keys(4, 3, 7, 5, 8, 1, 2)},
		{keys(5, 6, 7, 0, 1, 2, 3, 6), 5, keys(6, 6, 7, 0, 1, 2, 3)},
		{keys(top, 0, 1, half, 2, 0, 0, 3), top, keys(0, 2, 1, half, 3, 0, 0)},
	} {
		checkPop(t, c.h, c.first, c.rest, true)
	}
}

// P14.1 and P14.2, as they are worded, and P14.3 for Valid, for every short list, with keys at the limits; and the section 'Consequences' for those that are heaps.
func TestAllShortLists(t *testing.T) {
	lists(keys(0, half-1, half, top), 6, func(l []uint64) {
		for _, k := range keys(0, 1, half-1, half, top-1, top) {
			checkPush(t, l, k, plainPush(l, k))
		}
		checkOne(t, l)
	})
	lists(keys(3, 4, 5), 9, func(l []uint64) { checkOne(t, l) })
}

// checkOne compares Valid and Pop of a list with the plain ones, and checks the section 'Consequences' if it is a heap.
func checkOne(t *testing.T, l []uint64) {
	t.Helper()
	valid := plainValid(l)
	if edf.Valid(l) != valid {
		t.Errorf("Valid(%v) = %t, want %t", l, !valid, valid)
	}
	if len(l) < 2 {
		return
	}
	checkPop(t, l, l[0], plainPop(l), true)
	if valid {
		checkConsequences(t, l)
	}
}

// checkConsequences reports an error if Pop of a heap with elements does not return a least element, or Push or Pop does not return a heap.
func checkConsequences(t *testing.T, h []uint64) {
	t.Helper()
	k, rest, _ := edf.Pop(h)
	if k != slices.Min(h) || !edf.Valid(rest) {
		t.Errorf("Pop(%v) = %d, %v, which is not a least element and a heap", h, k, rest)
	}
	for _, x := range keys(0, k, k+1, top) {
		if g := edf.Push(h, x); !edf.Valid(g) {
			t.Errorf("Push(%v, %d) = %v, which is no heap", h, x, g)
		}
	}
}

// P14.1, P14.2 and P14.3 for lists of many shapes and lengths, around those at which a path becomes longer, most of them no heaps.
func TestShapes(t *testing.T) {
	for n := 2; n <= 140; n++ {
		for _, l := range shapes(n) {
			for _, k := range keys(0, half, top, l[0], l[n/2], l[n-1], l[(n-1)/2]-1) {
				checkPush(t, l, k, plainPush(l, k))
			}
			checkPop(t, l, l[0], plainPop(l), true)
			checkValid(t, l, plainValid(l))
		}
	}
}

// P14.3 for Valid, with each kind of list written out.
func TestValid(t *testing.T) {
	for _, c := range []struct {
		h    []uint64
		want bool
	}{
		// no element and one element
		{nil, true},
		{keys(), true},
		{keys(0), true},
		{keys(3), true},
		{keys(top), true},
		// two and three elements
		{keys(1, 2), true},
		{keys(2, 1), false},
		{keys(1, 2, 3), true},
		{keys(1, 3, 2), true},
		{keys(3, 2, 4), false},
		{keys(3, 4, 2), false},
		{keys(3, 2, 2), false},
		// equal elements
		{keys(3, 3), true},
		{keys(3, 3, 3), true},
		{keys(3, 3, 3, 3, 3, 3, 3), true},
		{keys(1, 2, 1, 2, 2, 1), true},
		{keys(1, 2, 1, 2, 2, 0), false},
		// heaps that are not in ascending order, and an ascending list
		{keys(1, 5, 2, 6, 7, 3, 4), true},
		{keys(1, 5, 2, 6, 7, 3, 4, 6), true},
		{keys(1, 2, 3, 4, 5, 6, 7, 8), true},
		// an element that is less than its parent but not than the first one; one that is less than the first one alone
		{keys(1, 5, 2, 4, 7, 3, 4), false},
		{keys(1, 2, 3, 1), false},
		{keys(1, 2, 3, 2, 2, 3, 0), false},
		{keys(1, 2, 3, 2, 9, 3), true},
		// a descending list
		{keys(8, 7, 6, 5, 4, 3, 2, 1), false},
		// keys at the limits
		{keys(0, half), true},
		{keys(half, 0), false},
		{keys(half-1, half), true},
		{keys(half, half-1), false},
		{keys(half, top), true},
		{keys(top, half), false},
		{keys(0, top), true},
		{keys(top, 0), false},
		{keys(top, top), true},
		{keys(top-1, top), true},
		{keys(top, top-1), false},
	} {
		checkValid(t, c.h, c.want)
	}
}

// P14.3 for Valid: a heap in which one element alone, at each place in turn, is made less than its parent, equal to it, and again greater.
func TestValidEachPlace(t *testing.T) {
	for n := 1; n <= 70; n++ {
		var h []uint64
		for i := range n {
			h = append(h, half-40+2*uint64(i))
		}
		checkValid(t, h, true)
		for i := 1; i < n; i++ {
			l, p := slices.Clone(h), h[(i+1)/2-1]
			for _, x := range []struct {
				k    uint64
				want bool
			}{{p - 1, false}, {0, false}, {p, true}, {p + 1, true}} {
				l[i] = x.k
				checkValid(t, l, x.want)
			}
		}
	}
}

// P14.3 for Sorted, with each kind of list written out.
func TestSorted(t *testing.T) {
	for _, c := range []struct{ l, want []uint64 }{
		// no element, one element and two elements
		{nil, nil},
		{keys(), nil},
		{keys(7), keys(7)},
		{keys(1, 2), keys(1, 2)},
		{keys(2, 1), keys(1, 2)},
		{keys(2, 2), keys(2, 2)},
		// ascending, descending and other orders
		{keys(1, 2, 3, 4, 5), keys(1, 2, 3, 4, 5)},
		{keys(5, 4, 3, 2, 1), keys(1, 2, 3, 4, 5)},
		{keys(3, 1, 5, 2, 4), keys(1, 2, 3, 4, 5)},
		{keys(1, 5, 2, 6, 7, 3, 4), keys(1, 2, 3, 4, 5, 6, 7)},
		// equal elements
		{keys(3, 3, 3, 3), keys(3, 3, 3, 3)},
		{keys(5, 1, 4, 1), keys(1, 1, 4, 5)},
		{keys(2, 1, 2, 1, 2), keys(1, 1, 2, 2, 2)},
		// the least and the greatest keys
		{keys(top, 0), keys(0, top)},
		{keys(half, half-1, half+1, top, 0, top-1, 1), keys(0, 1, half-1, half, half+1, top-1, top)},
		{keys(top, 0, top, 0, half), keys(0, 0, half, top, top)},
	} {
		checkSorted(t, c.l, c.want)
	}
}

// checkAscending reports an error if Sorted of a list is not in ascending order, or has not as many of each element.
func checkAscending(t *testing.T, l []uint64) {
	t.Helper()
	was := counts(l)
	g := edf.Sorted(l)
	if len(g) != len(l) {
		t.Errorf("Sorted(%v) = %v, which has %d elements, not %d", l, g, len(g), len(l))
	}
	for i := range g {
		if i > 0 && g[i] < g[i-1] {
			t.Errorf("Sorted(%v) = %v, which is not ascending at %d", l, g, i)
		}
		was[g[i]]--
	}
	for x, n := range was {
		if n != 0 {
			t.Errorf("Sorted(%v) = %v, which has %d too few of %d", l, g, n, x)
		}
	}
}

// P14.3 for Sorted, as it is worded, for every short list and for longer ones of many shapes.
func TestSortedLists(t *testing.T) {
	lists(keys(0, half-1, half, top), 6, func(l []uint64) { checkAscending(t, l) })
	for n := 7; n <= 140; n++ {
		for _, l := range shapes(n) {
			checkAscending(t, l)
		}
	}
}

// pushed returns the heap of the elements of a list, pushed one after another on an empty heap.
func pushed(t *testing.T, l []uint64) []uint64 {
	t.Helper()
	var h []uint64
	for _, k := range l {
		h = edf.Push(h, k)
		if !edf.Valid(h) {
			t.Fatalf("behind a push of %d the list is %v, which is no heap", k, h)
		}
	}
	return h
}

// popped returns what is popped from a heap one after another until it is empty.
func popped(t *testing.T, h []uint64) []uint64 {
	t.Helper()
	var l []uint64
	for {
		k, rest, ok := edf.Pop(h)
		if !ok {
			return l
		}
		if len(rest) != len(h)-1 || !edf.Valid(rest) {
			t.Fatalf("Pop(%v) = %d, %v, which is no heap with one element less", h, k, rest)
		}
		h = rest
		l = append(l, k)
	}
}

// The section 'Consequences': what is pushed and then popped is ascending, and is what was pushed; so is what is popped from any valid heap.
func TestPushedThenPopped(t *testing.T) {
	for n := range 140 {
		for _, l := range shapes(n) {
			want := slices.Sorted(slices.Values(l))
			if g := popped(t, pushed(t, l)); !slices.Equal(g, want) {
				t.Errorf("pushed %v, popped %v", l, g)
			}
			if g := edf.Sorted(l); !slices.Equal(g, want) {
				t.Errorf("Sorted(%v) = %v", l, g)
			}
			if !edf.Valid(l) {
				continue
			}
			if g := popped(t, l); !slices.Equal(g, want) {
				t.Errorf("popped %v from %v", g, l)
			}
		}
	}
}

// The section 'Consequences': long mixed lists of pushes and pops on an empty heap; beside it stand all elements in ascending order.
func TestMixedCalls(t *testing.T) {
	for seed := range uint64(40) {
		next := mixed(seed)
		var h, beside []uint64
		for range 1500 {
			if next(100) < 55 {
				// Some seeds have many equal keys, others few.
				k := uint64(next(3+int(seed)*int(seed))) * 0x0123456789abcdef
				h = edf.Push(h, k)
				i, _ := slices.BinarySearch(beside, k)
				beside = slices.Insert(beside, i, k)
			} else {
				k, rest, ok := edf.Pop(h)
				if ok != (len(h) > 0) || ok && k != beside[0] || !ok && k != 0 {
					t.Fatalf("Pop(%v) = %d, %v, %t, of the elements %v", h, k, rest, ok, beside)
				}
				h = rest
				beside = beside[min(1, len(beside)):]
			}
			if !edf.Valid(h) || !slices.Equal(edf.Sorted(h), beside) {
				t.Fatalf("%v is no heap of the elements %v", h, beside)
			}
		}
	}
}

// R1: long lists, much longer than an injector, of many shapes end in a moment.
func TestLongLists(t *testing.T) {
	const n = 300_000
	for i, l := range shapes(n) {
		// Messages do without the lists, which are too long for them.
		if edf.Valid(l) != plainValid(l) {
			t.Errorf("Valid of shape %d is not %t", i, plainValid(l))
		}
		for _, k := range keys(0, half, top) {
			if !slices.Equal(edf.Push(l, k), plainPush(l, k)) {
				t.Errorf("Push of %d on shape %d", k, i)
			}
		}
		k, rest, ok := edf.Pop(l)
		if k != l[0] || !ok || !slices.Equal(rest, plainPop(l)) {
			t.Errorf("Pop of shape %d", i)
		}
		if s := edf.Sorted(l); !slices.IsSorted(s) || len(s) != n {
			t.Errorf("Sorted of shape %d", i)
		}
	}
}

// R3: a heap from which others are made is kept as it is, whatever becomes of them: two heaps of one go on apart.
func TestHeapsGoOnApart(t *testing.T) {
	h := pushed(t, keys(4, 2, 7, 1))
	before := slices.Clone(h)
	a, b := edf.Push(h, 0), edf.Push(h, 9)
	_, c, _ := edf.Pop(h)
	d := edf.Push(c, 5)
	e := edf.Push(c, 3)
	for _, x := range []struct{ got, want []uint64 }{
		{h, before},
		{popped(t, a), keys(0, 1, 2, 4, 7)},
		{popped(t, b), keys(1, 2, 4, 7, 9)},
		{popped(t, c), keys(2, 4, 7)},
		{popped(t, d), keys(2, 4, 5, 7)},
		{popped(t, e), keys(2, 3, 4, 7)},
		{h, before},
	} {
		if !slices.Equal(x.got, x.want) {
			t.Errorf("got %v, want %v", x.got, x.want)
		}
	}
}

// The chapter's examples.
func TestExamples(t *testing.T) {
	h := pushed(t, keys(5, 3, 4, 1))
	if !slices.Equal(h, keys(1, 3, 4, 5)) {
		t.Errorf("pushing 5, 3, 4, 1 gives %v, want 1 3 4 5", h)
	}
	checkPop(t, keys(1, 3, 4, 5), 1, keys(3, 5, 4), true)
}
