package injector_test

import (
	"fmt"
	"math"
	"testing"

	"worksteal/api"
	"worksteal/machine"
	"worksteal/steptest"
)

// Most ways are those of Insert(5, 7) with the arrival number 6.
const k = 5<<40 + 6<<16 + 7

// inserted returns the way of an Insert of k into an environment whose Arrival contains 6: what is between line 2 and the store of k into a slot that contained was, and the end.
func inserted(what string, e *machine.Env, place int, was uint64, between ...[]step) steptest.Way {
	size := e.Memory.Peek(sizeCell)
	begin := []step{load(sizeCell, size), add(arrivalCell, 6, 7)}
	end := []step{store(slot(place), was, k), store(sizeCell, size, size+1)}
	return inserts(what, e, 5, 7, api.Fine, begin, join(between...), end)
}

// up returns lines 3 and 4: the key x of a parent moves to a place that contained was.
func up(place, parent int, was, x uint64) []step {
	return []step{load(slot(parent), x), store(slot(place), was, x)}
}

// noSlot returns the way of an Insert of k that is put into no slot: it looks at those parents, of which none is greater.
func noSlot(what string, e *machine.Env, parents ...step) steptest.Way {
	size := e.Memory.Peek(sizeCell)
	return inserts(what, e, 5, 7, api.Fine, []step{load(sizeCell, size), add(arrivalCell, 6, 7)}, parents, []step{none, store(sizeCell, size, size+1)})
}

// isFull returns the way of an Insert that is done with Full.
func isFull(what string, e *machine.Env) steptest.Way {
	return inserts(what, e, 5, 7, api.Full, one(load(sizeCell, e.Memory.Peek(sizeCell))))
}

// P16.1, line 1: Size is less than Heap, equal and greater, for injectors of several sizes. As an int it is negative from 2^63 on, so that line 5 comes next, at a place that no slot has.
func insertSizes() []steptest.Way {
	var l []steptest.Way
	for _, size := range []uint64{4, 5, 63, 64, 1 << 32, half - 2, half - 1} {
		l = append(l, isFull(fmt.Sprintf("Size %d of 4", size), room(4, size, 6)))
	}
	for _, size := range []uint64{half, half + 1, half + 4, top - 4, top - 3, top - 1, top} {
		l = append(l, noSlot(fmt.Sprintf("Size %d, which is %d", size, int(size)), room(4, size, 6)))
		l = append(l, noSlot(fmt.Sprintf("Size %d, which is %d, of one", size, int(size)), room(1, size, 6)))
	}
	return append(l,
		inserted("Size 0 of 4", room(4, 0, 6), 0, old),
		inserted("Size 1 of 4", room(4, 1, 6, 9), 1, old, one(load(slot(0), 9))),
		inserted("Size 3 of 4", room(4, 3, 6, 9, 9, 9), 3, old, one(load(slot(1), 9))),
		inserted("Size 0 of one", room(1, 0, 6), 0, old),
		isFull("Size 1 of one", room(1, 1, 6, top)),
		inserted("Size 1 of 2", room(2, 1, 6, 9), 1, old, one(load(slot(0), 9))),
		isFull("Size 2 of 2", room(2, 2, 6, top, top)),
		inserted("Size 62 of 64", room(64, 62, 6), 62, old, one(load(slot(30), old))),
		inserted("Size 63 of 64", room(64, 63, 6), 63, old, one(load(slot(31), old))),
		isFull("Size 64 of 64", room(64, 64, 6)),
	)
}

// P16.1 where the configuration does not say how many slots there are: Heap decides, 0 and negative ones among them, and the slots are those of the layout. An access to another place is a step, and finds 0.
func insertClaims() []steptest.Way {
	return []steptest.Way{
		isFull("Size 0, Heap 0", claims(0, room(4, 0, 6))),
		isFull("Size 1, Heap 0", claims(0, room(4, 1, 6, top))),
		isFull("Size 2^63 - 1, Heap 0", claims(0, room(4, half-1, 6))),
		noSlot("Size -1, Heap 0", claims(0, room(4, top, 6))),
		noSlot("Size -2^63, Heap 0", claims(0, room(4, half, 6))),
		isFull("Size 0, Heap -1", claims(-1, room(4, 0, 6))),
		isFull("Size -1, Heap -1", claims(-1, room(4, top, 6))),
		noSlot("Size -2, Heap -1", claims(-1, room(4, top-1, 6))),
		isFull("Size -2^63, Heap -2^63", claims(math.MinInt, room(4, half, 6))),
		isFull("Size 3, Heap 3 of 4 slots", claims(3, room(4, 3, 6))),
		inserted("Size 2, Heap 3 of 4 slots", claims(3, room(4, 2, 6, 9)), 2, old, one(load(slot(0), 9))),
		noSlot("Size 3, Heap 9 of 3 slots", claims(9, room(3, 3, 6, 9, 8, 7)), load(slot(1), 8)),
		inserted("Size 3, Heap 9 of 3 slots, k moves", claims(9, room(3, 3, 6, 9, top, 7)), 1, top, []step{load(slot(1), top), none, load(slot(0), 9)}),
		noSlot("Size 7, Heap 9 of 3 slots", claims(9, room(3, 7, 6, top, top, top)), none),
		noSlot("Size 2^63 - 2, Heap 2^63 - 1", claims(math.MaxInt, room(3, half-2, 6, top, top, top)), none),
		isFull("Size 2^63 - 1, Heap 2^63 - 1", claims(math.MaxInt, room(3, half-1, 6))),
	}
}

// draws returns the way of an Insert into an empty injector whose Arrival contains a number, with a key or without one. The number is drawn all the same.
func draws(deadline, task int, arrival uint64, key uint64, ok bool) steptest.Way {
	e := room(4, 0, arrival)
	what := fmt.Sprintf("Arrival %d", arrival)
	begin := []step{load(sizeCell, 0), add(arrivalCell, arrival, arrival+1)}
	if !ok {
		return inserts(what, e, deadline, task, api.Abort, begin)
	}
	return inserts(what, e, deadline, task, api.Fine, begin, []step{store(slot(0), old, key), store(sizeCell, 0, 1)})
}

// P16.1, line 2: the least and the greatest numbers that have a key, and those beside them and far away that have none.
func insertNumbers() []steptest.Way {
	l := []steptest.Way{
		draws(0, 0, 0, 0, true),
		draws(1, 0, 0, 1<<40, true),
		draws(0, 1, 0, 1, true),
		draws(0, 0, 1, 1<<16, true),
		draws(api.MaxDeadline, 0, 0, 0xffffff<<40, true),
		draws(0, 65535, 0, 65535, true),
		draws(0, 0, api.MaxArrival, 0xffffff<<16, true),
		draws(api.MaxDeadline, 65535, api.MaxArrival, top, true),
		draws(1<<23, 1<<15, 1<<23, 1<<63|1<<39|1<<15, true),
		draws(0x123456, 0xdef0, 0x789abc, 0x123456789abcdef0, true),
		// More tasks than the configuration has.
		draws(5, 300, 6, 5<<40|6<<16|300, true),
	}
	for _, n := range []int{-1, -2, -1 << 24, -1 << 40, math.MinInt, math.MinInt + 1, 1 << 32, 1 << 40, math.MaxInt - 1, math.MaxInt} {
		l = append(l, draws(n, 7, 6, 0, false), draws(5, n, 6, 0, false), draws(n, n, 6, 0, false), draws(5, 7, uint64(n), 0, false))
	}
	return append(l,
		draws(api.MaxDeadline+1, 7, 6, 0, false),
		draws(5, 65536, 6, 0, false),
		draws(5, 65537, 6, 0, false),
		draws(5, 7, api.MaxArrival+1, 0, false),
		draws(5, 7, half-1, 0, false),
		draws(5, 7, half, 0, false),
		draws(5, 7, top-1, 0, false),
		// The next number is 0.
		draws(5, 7, top, 0, false),
		draws(-1, -1, top, 0, false),
	)
}

// P16.1, line 2, in injectors that are not empty: no slot and no size changes without a key.
func TestInsertAborts(t *testing.T) {
	for _, size := range []uint64{0, 1, 2, 3, half, top} {
		e := room(4, size, 6, top, top, top)
		for _, x := range [][2]int{{-1, 7}, {5, -1}, {api.MaxDeadline + 1, 7}, {5, 65536}} {
			steptest.Check(t, inserts(fmt.Sprintf("Size %d", size), e, x[0], x[1], api.Abort, []step{load(sizeCell, size), add(arrivalCell, 6, 7)}))
		}
	}
}

// A full injector draws no number, also without a key.
func TestInsertFull(t *testing.T) {
	for _, x := range [][2]int{{5, 7}, {-1, 7}, {5, -1}, {api.MaxDeadline + 1, 65536}, {math.MaxInt, math.MinInt}} {
		for _, arrival := range []uint64{0, 6, api.MaxArrival + 1, top} {
			steptest.Check(t, inserts(fmt.Sprintf("full, Arrival %d", arrival), room(2, 2, arrival, top, top), x[0], x[1], api.Full, one(load(sizeCell, 2))))
		}
	}
}

// P16.1, lines 3 to 5: a parent that is less, equal, or greater than k, by one and by much, at the first place and further down; the end of the path is the first parent that is not greater, although a greater one is above it.
func insertLines() []steptest.Way {
	var l []steptest.Way
	for _, x := range []uint64{0, 1, 9, k - 1, k} {
		l = append(l, inserted(fmt.Sprintf("the parent k%+d", int(x-k)), room(4, 1, 6, x), 1, old, one(load(slot(0), x))))
		l = append(l, inserted(fmt.Sprintf("a second child, the parent k%+d", int(x-k)), room(4, 2, 6, x, top), 2, old, one(load(slot(0), x))))
		l = append(l, inserted(fmt.Sprintf("below a greater one, the parent k%+d", int(x-k)), room(4, 3, 6, top, x, top), 3, old, one(load(slot(1), x))))
		l = append(l, inserted(fmt.Sprintf("k moves by one, the next parent k%+d", int(x-k)), room(6, 5, 6, x, 3, k+1, 4, 5), 2, k+1, up(5, 2, old, k+1), one(load(slot(0), x))))
	}
	for _, x := range []uint64{k + 1, k + 1<<16, half - 1, half, half + 1, top - 1, top} {
		l = append(l, inserted(fmt.Sprintf("the parent %d", x), room(4, 1, 6, x), 0, x, up(1, 0, old, x)))
		l = append(l, inserted(fmt.Sprintf("a second child, the parent %d", x), room(4, 2, 6, x, 0), 0, x, up(2, 0, old, x)))
		l = append(l, inserted(fmt.Sprintf("k moves by two, the next parent %d", x), room(6, 5, 6, x, 3, k+1, 4, 5), 0, x, up(5, 2, old, k+1), up(2, 0, k+1, x)))
	}
	return append(l,
		// The arrival number decides among equal deadlines, as k has the number 6.
		inserted("an earlier arrival", room(4, 1, 6, key(5, 5, 65535)), 1, old, one(load(slot(0), key(5, 5, 65535)))),
		inserted("a later arrival", room(4, 1, 6, key(5, 7, 0)), 0, key(5, 7, 0), up(1, 0, old, key(5, 7, 0))),
		inserted("an earlier deadline", room(4, 1, 6, key(4, api.MaxArrival, 0)), 1, old, one(load(slot(0), key(4, api.MaxArrival, 0)))),
		inserted("a later deadline", room(4, 1, 6, key(6, 0, 0)), 0, key(6, 0, 0), up(1, 0, old, key(6, 0, 0))),
	)
}

// insertPaths returns the paths from the place behind the others to the first one, for the first sizes and some greater ones.
func insertPaths() [][]int {
	return [][]int{
		{0}, {1, 0}, {2, 0}, {3, 1, 0}, {4, 1, 0}, {5, 2, 0}, {6, 2, 0}, {7, 3, 1, 0}, {8, 3, 1, 0}, {9, 4, 1, 0}, {10, 4, 1, 0}, {11, 5, 2, 0}, {12, 5, 2, 0},
		{13, 6, 2, 0}, {14, 6, 2, 0}, {15, 7, 3, 1, 0}, {22, 10, 4, 1, 0}, {30, 14, 6, 2, 0}, {31, 15, 7, 3, 1, 0}, {32, 15, 7, 3, 1, 0}, {47, 23, 11, 5, 2, 0},
		{62, 30, 14, 6, 2, 0}, {63, 31, 15, 7, 3, 1, 0},
	}
}

// rises returns the ways of k along a path: it stays at its place, moves by one place, and so on, and by all places to the first one. The keys beside the path are less and greater than k.
func rises(path []int) []steptest.Way {
	var l []steptest.Way
	for moves := range path {
		slots := make([]uint64, path[0])
		for i := range slots {
			slots[i] = uint64(i%2) * top
		}
		var steps []step
		was := uint64(old)
		for i, parent := range path[1:] {
			x := k + uint64(100-i)
			if i >= moves {
				x = k - uint64(i-moves)
			}
			slots[parent] = x
			if i < moves {
				steps = append(steps, up(path[i], parent, was, x)...)
				was = x
			}
			if i == moves {
				steps = append(steps, load(slot(parent), x))
			}
		}
		l = append(l, inserted(fmt.Sprintf("%d places of the path %v", moves, path), room(path[0]+1, uint64(path[0]), 6, slots...), path[moves], was, steps))
	}
	return l
}

// P16.1: what other machines put into cells between any two lines. The numbers that a line uses are those of the contents at the time of its loads.
func insertOthers() []steptest.Way {
	e := func(size uint64, slots ...uint64) *machine.Env { return room(4, size, 6, slots...) }
	begin := []step{load(sizeCell, 3), add(arrivalCell, 6, 7)}
	end := func(place int, was uint64) []step {
		return []step{store(slot(place), was, k), store(sizeCell, 3, 4)}
	}
	high := []uint64{k + 1, k + 2, 9}
	insert := func(what string, e *machine.Env, steps ...[]step) steptest.Way {
		return inserts(what, e, 5, 7, api.Fine, steps...)
	}
	return []steptest.Way{
		inserts("it becomes full before line 1", e(3), 5, 7, api.Full, one(load(sizeCell, 4).After(sizeCell, 4))),
		inserts("it becomes full and is not before line 1", e(3, 9, 9, 9), 5, 7, api.Fine, one(load(sizeCell, 3).After(sizeCell, 4).After(sizeCell, 3)), begin[1:], one(load(slot(1), 9)), end(3, old)),
		insert("it has room before line 1", e(4, 9, 9, 9), one(load(sizeCell, 3).After(sizeCell, 3)), begin[1:], one(load(slot(1), 9)), end(3, old)),
		insert("it becomes empty before line 1", e(3, high...), one(load(sizeCell, 0).After(sizeCell, 0)), begin[1:], []step{store(slot(0), k+1, k), store(sizeCell, 0, 1)}),
		insert("it becomes full before line 2", e(3, 9, 9, 9), begin[:1], one(begin[1].After(sizeCell, 4)), []step{load(slot(1), 9), store(slot(3), old, k), store(sizeCell, 4, 4)}),
		insert("it becomes empty before line 2", e(3, 9, 9, 9), begin[:1], one(begin[1].After(sizeCell, 0)), []step{load(slot(1), 9), store(slot(3), old, k), store(sizeCell, 0, 4)}),
		insert("it becomes empty before line 3", e(3, 9, 9, 9), begin, one(load(slot(1), 9).After(sizeCell, 0)), []step{store(slot(3), old, k), store(sizeCell, 0, 4)}),
		insert("its size becomes negative before line 6", e(3, 9, 9, 9), begin, []step{load(slot(1), 9), store(slot(3), old, k), store(sizeCell, top, 4).After(sizeCell, top)}),
		insert("a negative size becomes 2 before line 2", e(top, high...), []step{load(sizeCell, top), begin[1].After(sizeCell, 2), none, store(sizeCell, 2, 0)}),
		insert("Arrival changes before line 1", e(3, 9, 9, 9), one(begin[0].After(arrivalCell, 5)), []step{add(arrivalCell, 5, 6), load(slot(1), 9), store(slot(3), old, k-1<<16), store(sizeCell, 3, 4)}),
		insert("Arrival changes before line 2", e(3, k-1, k-1, 9), begin[:1], []step{add(arrivalCell, 5, 6).After(arrivalCell, 5), load(slot(1), k-1), store(slot(3), old, k-1), load(slot(0), k-1), store(slot(1), k-1, k-1), store(slot(0), k-1, k-1<<16), store(sizeCell, 3, 4)}),
		inserts("there are no more numbers before line 2", e(3), 5, 7, api.Abort, begin[:1], one(add(arrivalCell, api.MaxArrival+1, api.MaxArrival+2).After(arrivalCell, api.MaxArrival+1))),
		insert("there are numbers before line 2", room(4, 3, top, 9, 9, 9), begin[:1], one(begin[1].After(arrivalCell, 6)), one(load(slot(1), 9)), end(3, old)),
		insert("Arrival changes before line 3", e(3, 9, 9, 9), begin, one(load(slot(1), 9).After(arrivalCell, 99)), end(3, old)),
		insert("the parent becomes greater before line 3", e(3, 9, 9, 9), begin, []step{load(slot(1), k+1).After(slot(1), k+1), store(slot(3), old, k+1), load(slot(0), 9)}, end(1, k+1)),
		insert("the parent becomes equal before line 3", e(3, high...), begin, one(load(slot(1), k).After(slot(1), k)), end(3, old)),
		insert("the parent becomes less before line 4", e(3, 9, k+2, 9), begin, []step{load(slot(1), k+2), store(slot(3), old, k+2).After(slot(1), 3), load(slot(0), 9)}, end(1, 3)),
		insert("the parent becomes greater before line 5", e(3, 9, 9, 9), begin, one(load(slot(1), 9)), one(store(slot(3), old, k).After(slot(1), top)), end(3, old)[1:]),
		insert("the place changes before line 4", e(3, 9, k+2, 9), begin, []step{load(slot(1), k+2), store(slot(3), 1, k+2).After(slot(3), 1), load(slot(0), 9)}, end(1, k+2)),
		insert("the place changes before line 3 again", e(3, 9, k+2, 9), begin, []step{load(slot(1), k+2), store(slot(3), old, k+2), load(slot(0), 9).After(slot(3), 1)}, end(1, k+2)),
		insert("the place changes before line 5", e(3, 9, 9, 9), begin, one(load(slot(1), 9)), []step{store(slot(3), 2, k).After(slot(3), 2), store(sizeCell, 3, 4)}),
		insert("the first key changes before line 3 again", e(3, high...), begin, up(3, 1, old, k+2), one(load(slot(0), k).After(slot(0), k)), end(1, k+2)),
		insert("the first key changes before line 4", e(3, high...), begin, up(3, 1, old, k+2), []step{load(slot(0), k+1), store(slot(1), k+2, k+1).After(slot(0), 3), store(slot(0), 3, k), store(sizeCell, 3, 4)}),
		insert("k is taken away before line 6", e(3, high...), begin, up(3, 1, old, k+2), up(1, 0, k+2, k+1), []step{store(slot(0), k+1, k), store(sizeCell, 3, 4).After(slot(0), 1)}),
		insert("the lock is released and taken", e(3, 9, 9, 9), one(begin[0].After(lockCell, 0)), one(begin[1].After(lockCell, 1)), one(load(slot(1), 9).After(lockCell, 2)), end(3, old)),
	}
}

func TestInsertSizes(t *testing.T) {
	steptest.Check(t, insertSizes()...)
	steptest.Check(t, insertClaims()...)
}

func TestInsertNumbers(t *testing.T) { steptest.Check(t, insertNumbers()...) }

func TestInsertLines(t *testing.T) { steptest.Check(t, insertLines()...) }

func TestInsertPaths(t *testing.T) {
	for _, path := range insertPaths() {
		l := rises(path)
		steptest.Check(t, l...)
		if last := l[len(l)-1]; len(l) != len(path) || len(last.Steps) != 4+2*(len(path)-1) {
			t.Errorf("%s: %d ways were tested, the last one of %d steps", last.What, len(l), len(last.Steps))
		}
	}
}

func TestInsertOthers(t *testing.T) { steptest.Check(t, insertOthers()...) }
