package injector_test

import (
	"fmt"
	"math"
	"slices"
	"testing"

	"worksteal/api"
	"worksteal/injector"
	"worksteal/machine"
	"worksteal/steptest"
)

// Most ways are those of Remove(1) of the key first, whose task is 9.
const first = 3<<40 + 4<<16 + 9

// takes returns lines 1 to 4 of a Remove of worker 1, where first is the first key and y the last one.
func takes(size uint64, y uint64) []step {
	return []step{load(sizeCell, size), load(slot(0), first), load(slot(int(size)-1), y), store(sizeCell, size, size-1).Emits(removed(1, 9))}
}

// took returns the way of a Remove of worker 1 from an injector that contains first and other keys, each of which has a slot. Behind lines 1 to 4 come other ones.
func took(what string, keys []uint64, behind ...[]step) steptest.Way {
	size := len(keys) + 1
	e := room(size+1, uint64(size), 6, slices.Concat([]uint64{first}, keys)...)
	y := e.Memory.Peek(slot(size - 1))
	return removes(fmt.Sprintf("%s %v", what, keys), e, 1, 9, takes(uint64(size), y), join(behind...))
}

// keys returns keys as a list.
func keys(l ...uint64) []uint64 { return l }

// pair returns lines 5 and 6: the keys z and u of two children.
func pair(child int, z, u uint64) []step {
	return []step{load(slot(child), z), load(slot(child+1), u)}
}

// lesser returns line 7: the key z of a child moves to a place that contained was.
func lesser(place int, was, z uint64) []step { return one(store(slot(place), was, z)) }

// last returns line 8: the last key is put into a place that contained was.
func last(place int, was, y uint64) []step { return one(store(slot(place), was, y)) }

// P16.2, line 1: as an int Size is negative from 2^63 on, and then, as for 0, nothing is there.
func removeSizes() []steptest.Way {
	var l []steptest.Way
	for _, size := range []uint64{0, half, half + 1, half + 3, top - 3, top - 1, top} {
		for _, heap := range []int{1, 4} {
			l = append(l, removesNone(fmt.Sprintf("Size %d, which is %d, of %d", size, int(size), heap), room(heap, size, 6), one(load(sizeCell, size))))
		}
	}
	return append(l,
		took("one key", nil),
		took("two keys", keys(50), last(0, first, 50)),
		took("three keys", keys(40, 50), one(load(slot(1), 40)), lesser(0, first, 40), last(1, 40, 50)),
		took("four keys", keys(40, 50, 60), pair(1, 40, 50), lesser(0, first, 40), last(1, 40, 60)),
		removes("the only slot", room(1, 1, 6, first), 1, 9, takes(1, first)),
		removes("both slots", room(2, 2, 6, first, 50), 1, 9, takes(2, 50), last(0, first, 50)),
	)
}

// P16.2 where Size is greater than the number of slots: the last key is 0, which is found at every place that no slot has, and nothing is less.
func removeBeyond() []steptest.Way {
	takes := func(size uint64) []step {
		return []step{load(sizeCell, size), load(slot(0), first), none, store(sizeCell, size, size-1).Emits(removed(1, 9))}
	}
	end := last(0, first, 0)
	l := []steptest.Way{
		removes("two keys, one slot", room(1, 2, 6, first), 1, 9, takes(2), end),
		removes("three keys, one slot", room(1, 3, 6, first), 1, 9, takes(3), one(none), end),
		removes("four keys, one slot", room(1, 4, 6, first), 1, 9, takes(4), []step{none, none}, end),
		removes("three keys, two slots", room(2, 3, 6, first, 50), 1, 9, takes(3), one(load(slot(1), 50)), end),
		removes("four keys, two slots, which contain 0", room(2, 4, 6, first, 0), 1, 9, takes(4), []step{load(slot(1), 0), none}, end),
		removes("four keys, two slots", room(2, 4, 6, first, 50), 1, 9, takes(4), []step{load(slot(1), 50), none}, end),
		removes("four keys, three slots", room(3, 4, 6, first, 50, 40), 1, 9, takes(4), pair(1, 50, 40), end),
	}
	for _, size := range []uint64{5, 65, 1 << 32, half - 2, half - 1} {
		l = append(l, removes(fmt.Sprintf("%d keys, three slots", size), room(3, size, 6, first, 50, 40), 1, 9, takes(size), pair(1, 50, 40), end))
	}
	return l
}

// P16.2, line 4: the event has the worker as it is, and the task of any contents of the first slot. It is emitted once.
func removeEvents() []steptest.Way {
	var l []steptest.Way
	for _, worker := range []int{0, 1, 2, 15, 16, 256, 257, 1 << 32, math.MaxInt, -1, -2, math.MinInt} {
		for _, x := range []struct {
			contents uint64
			task     int
		}{
			{0, 0}, {1, 1}, {4, 4}, {5, 5}, {255, 255}, {256, 256}, {1<<15 - 1, 1<<15 - 1}, {1 << 15, 1 << 15}, {65535, 65535}, {65536, 0}, {65537, 1},
			{key(9, 8, 7), 7}, {key(api.MaxDeadline, 0, 3), 3}, {key(0, api.MaxArrival, 3), 3}, {1 << 40, 0}, {half - 1, 65535}, {half, 0}, {half + 7, 7}, {top - 1, 65534}, {top, 65535},
		} {
			e := room(3, 1, 6, x.contents, 50, 60)
			event := removed(worker, x.task)
			begin := []step{load(sizeCell, 1), load(slot(0), x.contents), load(slot(0), x.contents), store(sizeCell, 1, 0).Emits(event)}
			l = append(l, removes(fmt.Sprintf("one key, %d", x.contents), e, worker, x.task, begin))
		}
	}
	for _, worker := range []int{0, 16, -1} {
		event := removed(worker, 7)
		begin := []step{load(sizeCell, 3), load(slot(0), half+7), load(slot(2), 50), store(sizeCell, 3, 2).Emits(event)}
		l = append(l, removes("three keys", room(3, 3, 6, half+7, 40, 50), worker, 7, begin, one(load(slot(1), 40)), lesser(0, half+7, 40), last(1, 40, 50)))
	}
	return l
}

// P16.2, lines 5 to 8: one child alone and two of them, in each order, equal to one another and to the last key; the last key stays at the first place, moves down by one, and to the end.
func removeLines() []steptest.Way {
	return []steptest.Way{
		// The first place has one child, which is less than the last key, equal, or greater.
		took("the child is less", keys(49, 50), one(load(slot(1), 49)), lesser(0, first, 49), last(1, 49, 50)),
		took("the child is equal", keys(50, 50), one(load(slot(1), 50)), last(0, first, 50)),
		took("the child is greater", keys(51, 50), one(load(slot(1), 51)), last(0, first, 50)),
		took("the child is much less", keys(0, top), one(load(slot(1), 0)), lesser(0, first, 0), last(1, 0, top)),
		took("the child is much greater", keys(top, 0), one(load(slot(1), top)), last(0, first, 0)),
		took("the child would be greater with a sign", keys(half-1, half), one(load(slot(1), half-1)), lesser(0, first, half-1), last(1, half-1, half)),
		took("the child would be less with a sign", keys(half, half-1), one(load(slot(1), half)), last(0, first, half-1)),
		took("the child is less than the key that is taken", keys(1, 50), one(load(slot(1), 1)), lesser(0, first, 1), last(1, 1, 50)),

		// It has two children.
		took("both are less, the first one is the least", keys(40, 41, 50), pair(1, 40, 41), lesser(0, first, 40), last(1, 40, 50)),
		took("both are less, the second one is the least", keys(41, 40, 50), pair(1, 41, 40), lesser(0, first, 40), last(2, 40, 50)),
		took("both are less and equal", keys(40, 40, 50), pair(1, 40, 40), lesser(0, first, 40), last(1, 40, 50)),
		took("the first one is less", keys(49, 51, 50), pair(1, 49, 51), lesser(0, first, 49), last(1, 49, 50)),
		took("the second one is less", keys(51, 49, 50), pair(1, 51, 49), lesser(0, first, 49), last(2, 49, 50)),
		took("the first one is less, the second one equal", keys(49, 50, 50), pair(1, 49, 50), lesser(0, first, 49), last(1, 49, 50)),
		took("the second one is less, the first one equal", keys(50, 49, 50), pair(1, 50, 49), lesser(0, first, 49), last(2, 49, 50)),
		took("both are equal to the last key", keys(50, 50, 50), pair(1, 50, 50), last(0, first, 50)),
		took("the first one is equal, the second one greater", keys(50, 51, 50), pair(1, 50, 51), last(0, first, 50)),
		took("the second one is equal, the first one greater", keys(51, 50, 50), pair(1, 51, 50), last(0, first, 50)),
		took("both are greater", keys(51, 52, 50), pair(1, 51, 52), last(0, first, 50)),
		took("both are greater, the second one less", keys(52, 51, 50), pair(1, 52, 51), last(0, first, 50)),
		took("the second one would be less with a sign", keys(half-1, half, top), pair(1, half-1, half), lesser(0, first, half-1), last(1, half-1, top)),
		took("the first one would be less with a sign", keys(half, half-1, top), pair(1, half, half-1), lesser(0, first, half-1), last(2, half-1, top)),

		// Five keys: the second place has one child, the third place none.
		took("it moves down to the end, a child without a sibling", keys(20, 30, 40, 50), pair(1, 20, 30), lesser(0, first, 20), one(load(slot(3), 40)), lesser(1, 20, 40), last(3, 40, 50)),
		took("it stops above a child without a sibling that is equal", keys(20, 30, 50, 50), pair(1, 20, 30), lesser(0, first, 20), one(load(slot(3), 50)), last(1, 20, 50)),
		took("it stops above a child without a sibling that is greater", keys(20, 30, 60, 50), pair(1, 20, 30), lesser(0, first, 20), one(load(slot(3), 60)), last(1, 20, 50)),
		took("it moves to a place without children", keys(30, 20, 10, 50), pair(1, 30, 20), lesser(0, first, 20), last(2, 20, 50)),
		// Six keys: two children of the second place.
		took("two children below, the first one is less", keys(20, 30, 40, 41, 50), pair(1, 20, 30), lesser(0, first, 20), pair(3, 40, 41), lesser(1, 20, 40), last(3, 40, 50)),
		took("two children below, the second one is less", keys(20, 30, 41, 40, 50), pair(1, 20, 30), lesser(0, first, 20), pair(3, 41, 40), lesser(1, 20, 40), last(4, 40, 50)),
		took("two equal children below", keys(20, 30, 40, 40, 50), pair(1, 20, 30), lesser(0, first, 20), pair(3, 40, 40), lesser(1, 20, 40), last(3, 40, 50)),
		took("two children below that are greater", keys(20, 30, 60, 55, 50), pair(1, 20, 30), lesser(0, first, 20), pair(3, 60, 55), last(1, 20, 50)),
		// Seven and eight keys: the third place has one child, and two.
		took("one child of the third place", keys(30, 20, 60, 70, 40, 50), pair(1, 30, 20), lesser(0, first, 20), one(load(slot(5), 40)), lesser(2, 20, 40), last(5, 40, 50)),
		took("two children of the third place", keys(30, 20, 60, 70, 41, 40, 50), pair(1, 30, 20), lesser(0, first, 20), pair(5, 41, 40), lesser(2, 20, 40), last(6, 40, 50)),

		// What the slots contain is no heap.
		took("a lesser key is below a place that is not less", keys(60, 60, 1, 2, 3, 50), pair(1, 60, 60), last(0, first, 50)),
		took("the last key is less than the one that is taken", keys(40, 30, 1, 2, 0), pair(1, 40, 30), last(0, first, 0)),
		took("the keys descend", keys(90, 80, 70, 60, 50, 40, 85), pair(1, 90, 80), lesser(0, first, 80), pair(5, 50, 40), lesser(2, 80, 40), last(6, 40, 85)),
	}
}

// removePaths returns paths of children from the first place on, through first and second ones.
func removePaths() [][]int {
	return [][]int{
		{0, 1}, {0, 2}, {0, 1, 3}, {0, 1, 4}, {0, 2, 5}, {0, 2, 6}, {0, 1, 3, 7}, {0, 1, 3, 8}, {0, 1, 4, 9}, {0, 1, 4, 10}, {0, 2, 5, 11}, {0, 2, 6, 14},
		{0, 1, 3, 7, 15}, {0, 2, 6, 14, 30}, {0, 1, 4, 10, 21}, {0, 1, 3, 7, 15, 31}, {0, 2, 6, 14, 29, 60}, {0, 2, 6, 14, 30, 61}, {0, 2, 6, 14, 30, 62},
	}
}

// sinks returns the ways of the last of some keys along a path of lesser children: it stays at the first place, moves down by one place, and so on, and by all places to the end of the path, or to a place below it. All keys beside the path are greater than it.
func sinks(path []int, size int) []steptest.Way {
	var l []steptest.Way
	const y = 1000
	for moves := range path {
		slots := slices.Repeat(keys(y+1), size)
		slots[0], slots[size-1] = first, y
		for i, place := range path[1:] {
			slots[place] = uint64(100 + i)
			if i >= moves {
				slots[place] = y
			}
		}
		steps := takes(uint64(size), y)
		for i, place := range path {
			steps = append(steps, looks(slots, place)...)
			if i == moves {
				steps = append(steps, last(place, slots[place], y)...)
				break
			}
			steps = append(steps, lesser(place, slots[place], slots[path[i+1]])...)
		}
		l = append(l, removes(fmt.Sprintf("%d places of the path %v, of %d keys", moves, path, size), room(64, uint64(size), 6, slots...), 1, 9, steps))
	}
	return l
}

// looks returns lines 5 and 6 for the children that a place has without the last slot.
func looks(slots []uint64, place int) []step {
	var l []step
	for child := 2*place + 1; child <= 2*place+2 && child <= len(slots)-2; child++ {
		l = append(l, load(slot(child), slots[child]))
	}
	return l
}

// P16.2: what other machines put into cells between any two lines. The numbers that a line uses are those of the contents at the time of its loads.
func removeOthers() []steptest.Way {
	e := func(l ...uint64) *machine.Env {
		return room(6, uint64(len(l))+1, 6, slices.Concat(keys(first), l)...)
	}
	remove := func(what string, e *machine.Env, steps ...[]step) steptest.Way {
		return removes(what, e, 1, 9, steps...)
	}
	emits := func(size uint64) step { return store(sizeCell, size, size-1).Emits(removed(1, 9)) }
	three, five := takes(3, 50), takes(5, 50)
	return []steptest.Way{
		removesNone("it becomes empty before line 1", e(40, 50), one(load(sizeCell, 0).After(sizeCell, 0))),
		removesNone("its size becomes negative before line 1", e(40, 50), one(load(sizeCell, top).After(sizeCell, top))),
		remove("a key comes before line 1", e(), one(load(sizeCell, 2).After(slot(1), 50).After(sizeCell, 2)), takes(2, 50)[1:], last(0, first, 50)),
		remove("it becomes empty before line 2", e(40, 50), three[:1], one(three[1].After(sizeCell, 0)), three[2:3], one(store(sizeCell, 0, 2).Emits(removed(1, 9))), one(load(slot(1), 40)), lesser(0, first, 40), last(1, 40, 50)),
		remove("keys come before line 2", e(), one(load(sizeCell, 1)), []step{load(slot(0), first).After(slot(1), 5).After(slot(2), 6).After(sizeCell, 3), load(slot(0), first), store(sizeCell, 3, 0).Emits(removed(1, 9))}),
		remove("its size becomes negative before line 4", e(50), takes(2, 50)[:3], one(store(sizeCell, top, 1).Emits(removed(1, 9)).After(sizeCell, top)), last(0, first, 50)),
		remove("its size changes behind line 4", e(40, 50), three, []step{load(slot(1), 40).After(sizeCell, 9), store(slot(0), first, 40).After(sizeCell, 0), store(slot(1), 40, 50).After(sizeCell, top)}),
		remove("the first key changes before line 2", room(6, 3, 6, 8, 40, 50), one(load(sizeCell, 3)), one(load(slot(0), first).After(slot(0), first)), three[2:], one(load(slot(1), 40)), lesser(0, first, 40), last(1, 40, 50)),
		remove("the only key changes before line 3", e(), []step{load(sizeCell, 1), load(slot(0), first), load(slot(0), 8).After(slot(0), 8), emits(1)}),
		remove("the first key changes before line 4", e(40, 50), three[:3], one(three[3].After(slot(0), 8)), one(load(slot(1), 40)), lesser(0, 8, 40), last(1, 40, 50)),
		remove("the first key changes before line 7", e(40, 50), three, one(load(slot(1), 40)), one(store(slot(0), 8, 40).After(slot(0), 8)), last(1, 40, 50)),
		remove("the first key changes before line 8", e(50), takes(2, 50), one(store(slot(0), 8, 50).After(slot(0), 8))),
		remove("the last key changes before line 3", e(40, 50), three[:2], one(load(slot(2), 30).After(slot(2), 30)), three[3:], one(load(slot(1), 40)), last(0, first, 30)),
		remove("the last key changes before line 4", e(40, 50), three[:3], one(three[3].After(slot(2), 30)), one(load(slot(1), 40)), lesser(0, first, 40), last(1, 40, 50)),
		remove("the last key changes before line 5", e(60, 50), three, one(load(slot(1), 60).After(slot(2), 70)), last(0, first, 50)),
		remove("the child changes before line 5", e(40, 50), three, one(load(slot(1), 60).After(slot(1), 60)), last(0, first, 50)),
		remove("the child becomes less before line 5", e(60, 50), three, one(load(slot(1), 40).After(slot(1), 40)), lesser(0, first, 40), last(1, 40, 50)),
		remove("the child changes before line 7", e(40, 50), three, one(load(slot(1), 40)), one(store(slot(0), first, 40).After(slot(1), 60)), last(1, 60, 50)),
		remove("the child changes before line 8", e(60, 50), three, one(load(slot(1), 60)), one(store(slot(0), first, 50).After(slot(1), 40))),
		remove("the first child changes before line 6", e(20, 30, 40, 50), five, []step{load(slot(1), 20), load(slot(2), 30).After(slot(1), 35)}, lesser(0, first, 20), one(load(slot(3), 40)), lesser(1, 35, 40), last(3, 40, 50)),
		remove("the second child becomes less before line 6", e(20, 30, 40, 50), five, []step{load(slot(1), 20), load(slot(2), 19).After(slot(2), 19)}, lesser(0, first, 19), last(2, 19, 50)),
		remove("the second child becomes equal before line 6", e(30, 20, 40, 50), five, []step{load(slot(1), 30), load(slot(2), 30).After(slot(2), 30)}, lesser(0, first, 30), one(load(slot(3), 40)), lesser(1, 30, 40), last(3, 40, 50)),
		remove("the second child changes before line 7", e(30, 20, 40, 50), five, pair(1, 30, 20), one(store(slot(0), first, 20).After(slot(2), 99)), last(2, 99, 50)),
		remove("the next child changes before line 5 again", e(20, 30, 40, 50), five, pair(1, 20, 30), lesser(0, first, 20), one(load(slot(3), 51).After(slot(3), 51)), last(1, 20, 50)),
		remove("what was passed changes before line 5 again", e(20, 30, 40, 50), five, pair(1, 20, 30), lesser(0, first, 20), one(load(slot(3), 40).After(slot(0), 1).After(slot(2), 1)), lesser(1, 20, 40), last(3, 40, 50)),
		remove("the lock and the number of arrivals change", e(50), one(load(sizeCell, 2).After(lockCell, 0)), one(load(slot(0), first).After(lockCell, 1).After(arrivalCell, 0)), one(load(slot(1), 50).After(arrivalCell, top)), one(emits(2).After(lockCell, 0)), one(store(slot(0), first, 50).After(arrivalCell, 3))),
	}
}

func TestRemoveSizes(t *testing.T) {
	steptest.Check(t, removeSizes()...)
	steptest.Check(t, removeBeyond()...)
}

func TestRemoveEvents(t *testing.T) { steptest.Check(t, removeEvents()...) }

func TestRemoveLines(t *testing.T) { steptest.Check(t, removeLines()...) }

func TestRemovePaths(t *testing.T) {
	for _, path := range removePaths() {
		end := path[len(path)-1]
		for _, size := range []int{end + 2, end + 3, 2*end + 2, 2*end + 3, 64} {
			if size <= 64 && size > end+1 {
				steptest.Check(t, sinks(path, size)...)
			}
		}
	}
}

func TestRemoveOthers(t *testing.T) { steptest.Check(t, removeOthers()...) }

// The number of steps of a Remove: four for the only key, one more for two of them, and then those of the path.
func TestRemoveSteps(t *testing.T) {
	for _, x := range []struct{ size, steps int }{{1, 4}, {2, 5}, {3, 7}, {4, 8}, {5, 10}, {6, 11}, {10, 14}, {64, 20}} {
		// The keys ascend, so that the last one moves along first children.
		e := room(64, uint64(x.size), 6)
		for i := range x.size {
			e.Memory.Store(slot(i), key(uint64(i), 0, uint64(i)))
		}
		run(t, fmt.Sprintf("%d keys", x.size), e, injector.Remove(1), x.steps, api.Got, 0)
	}
}
