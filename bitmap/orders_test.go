package bitmap_test

import (
	"fmt"
	"slices"
	"testing"

	"worksteal/api"
	"worksteal/bitmap"
	"worksteal/machine"
	"worksteal/owner"
	"worksteal/steptest"
	"worksteal/thief"
)

// A scene is workers on the deques of the tests, and a series what one of them runs.
type (
	scene  = steptest.Scene
	series = []machine.Machine
)

// The deque of the scenes has its entries in the cells behind the bitmap, which is cell 2, and a bit of its own there.
var deque = api.Queue{Top: 0, Bottom: 1, Ring: 3, Cap: 4}

const dequeBit = 3

// pushing returns what an owner runs to push an entry, as levels.Push will: the bit is set behind it.
func pushing() series { return series{owner.Push(deque, 7), bitmap.Set(2, dequeBit)} }

func popping() series { return series{owner.Pop(deque)} }

func stealing() series { return series{thief.Steal(deque)} }

func clearing() series { return series{bitmap.Clear(2, dequeBit, deque)} }

// opened returns a scene on a deque that has some entries, whose bit is 1 if it has any, and whose indices begin with a number. All other bits of the bitmap are 1.
func opened(begin uint64, entries int, left ...series) scene {
	e := machine.Bare(deque.Ring + deque.Cap)
	e.Memory.Store(deque.Top, begin)
	e.Memory.Store(deque.Bottom, begin)
	e.Memory.Store(2, top-mask(dequeBit))
	for range entries {
		for _, x := range pushing() {
			machine.Run(e, x, 9)
		}
	}
	return steptest.Play(e, left...)
}

// bitOf returns the bit of the deque of a scene.
func bitOf(s scene) uint64 { return s.Env.Memory.Peek(2) / mask(dequeBit) % 2 }

// entriesOf returns how many entries the deque of a scene has when all is done.
func entriesOf(s scene) uint64 {
	return s.Env.Memory.Peek(deque.Bottom) - s.Env.Memory.Peek(deque.Top)
}

// The consequence of P12.2: from the step on with which a Clear is done, the bit is 1 if entries stay in the deque, whatever a thief, an owner and machines at other bits do. Before that, it is 0 in some orders.
func TestEntriesStay(t *testing.T) {
	for _, begin := range []uint64{0, half - 1, top - 3} {
		others := series{bitmap.Set(2, 5), bitmap.Clear(2, 0, api.Queue{Top: -1, Bottom: -1}), bitmap.Set(2, 0)}
		for _, s := range []scene{
			opened(begin, 1, clearing()),
			opened(begin, 1, clearing(), others),
			opened(begin, 1, clearing(), pushing()),
			opened(begin, 2, clearing(), stealing()),
			opened(begin, 2, clearing(), popping(), others),
			opened(begin, 3, clearing(), stealing(), stealing()),
			opened(begin, 2, clearing(), stealing(), pushing()),
		} {
			cleared := false
			steptest.Orders(s, func(s scene) {
				if done := len(s.Actors[0].Left) == 0; done && bitOf(s) != 1 {
					t.Errorf("indices from %d on: a Clear is done, and the bit of a deque with entries is 0", begin)
				}
				cleared = cleared || bitOf(s) == 0
				if s.Over() && s.Env.Memory.Peek(2) != top {
					t.Errorf("indices from %d on: the bitmap is %#x at the end", begin, s.Env.Memory.Peek(2))
				}
			})
			if !cleared {
				t.Errorf("indices from %d on: the bit is 0 in no order", begin)
			}
		}
	}
}

// endings returns the scenes of TestBitAtTheEnd, whose indices begin with a number.
func endings(begin uint64) []scene {
	return []scene{
		opened(begin, 0, pushing(), clearing(), stealing()),
		opened(begin, 0, pushing(), clearing(), clearing(), stealing()),
		opened(begin, 0, pushing(), append(clearing(), clearing()...), stealing()),
		opened(begin, 0, append(pushing(), pushing()...), clearing(), append(stealing(), stealing()...)),
		opened(begin, 1, pushing(), clearing(), stealing(), stealing()),
		opened(begin, 1, append(popping(), pushing()...), clearing(), stealing()),
		opened(begin, 1, slices.Concat(pushing(), popping(), pushing()), clearing(), clearing(), append(stealing(), stealing()...)),
		opened(begin, 2, slices.Concat(popping(), popping(), clearing(), pushing()), clearing(), stealing()),
	}
}

// The consequence of P12.2: while the bit of a deque is cleared, an owner pushes entries and sets the bit, and thieves steal. In all orders the bit is 1 at the end if the deque has an entry; it is 0 at the end of some orders in which it has none. No other bit changes.
func TestBitAtTheEnd(t *testing.T) {
	for _, begin := range []uint64{0, half - 1, top - 3} {
		for i, s := range endings(begin) {
			ends := map[[2]bool]int{}
			steptest.Orders(s, func(s scene) {
				if s.Env.Memory.Peek(2)|mask(dequeBit) != top {
					t.Errorf("scene %d, indices from %d on: the bitmap is %#x", i, begin, s.Env.Memory.Peek(2))
				}
				if s.Over() {
					ends[[2]bool{entriesOf(s) > 0, bitOf(s) == 1}]++
				}
			})
			if n := ends[[2]bool{true, false}]; n > 0 {
				t.Errorf("scene %d, indices from %d on: the deque has entries and its bit is 0 at %d ends", i, begin, n)
			}
			if ends[[2]bool{true, true}] == 0 || ends[[2]bool{false, false}] == 0 {
				t.Errorf("scene %d, indices from %d on: the ends are %v, want some with an entry and some with none and the bit 0", i, begin, ends)
			}
		}
	}
}

// A level is a bit of the bitmap of a worker, which is cell 0, its deque, and how many more entries it may get.
type level struct {
	bit  int
	q    api.Queue
	room int
}

// places is the number of places of the deque of a level.
const places = 12

// levels returns levels whose deques lie one behind another, behind the bitmap, and the number of all cells.
func levels(bits ...int) (l []level, cells int) {
	cells = 1
	for _, bit := range bits {
		q := api.Queue{Top: cells, Bottom: cells + 1, Ring: cells + 2, Cap: places}
		l = append(l, level{bit, q, places})
		cells = q.Ring + places
	}
	return l, cells
}

// ownerOf returns what an owner runs on some levels. It pushes no more than the deques have room for.
func ownerOf(all []level, some func(n int) int) series {
	var l series
	for range 40 {
		v := &all[some(len(all))]
		switch some(4) {
		case 0:
			l = append(l, owner.Pop(v.q))
		case 1:
			l = append(l, bitmap.Clear(0, v.bit, v.q))
		default:
			if v.room > 0 {
				v.room--
				l = append(l, owner.Push(v.q, 7), bitmap.Set(0, v.bit))
			}
		}
	}
	return l
}

// thiefOf returns what a thief runs on some levels.
func thiefOf(all []level, some func(n int) int) series {
	var l series
	for range 20 {
		v := all[some(len(all))]
		if some(2) == 0 {
			l = append(l, thief.Steal(v.q))
		} else {
			l = append(l, bitmap.Clear(0, v.bit, v.q))
		}
	}
	return l
}

// The consequence of P12.2 for many orders of the steps of an owner and several thieves on the deques of a worker, all of which clear bits as well: at the end, each deque with entries has the bit 1.
func TestManyOrders(t *testing.T) {
	ends := map[[2]bool]int{}
	for seed := range 300 {
		some := steptest.Mixed(uint64(seed))
		all, cells := levels(0, 31, 63)
		workers := []series{ownerOf(all, some)}
		for range 1 + some(3) {
			workers = append(workers, thiefOf(all, some))
		}
		s := steptest.Order(steptest.Play(machine.Bare(cells), workers...), some)
		for _, v := range all {
			entries := s.Env.Memory.Peek(v.q.Bottom) - s.Env.Memory.Peek(v.q.Top)
			set := s.Env.Memory.Peek(0)/mask(v.bit)%2 == 1
			if ends[[2]bool{entries > 0, set}]++; entries > 0 && !set {
				t.Errorf("seed %d: the deque of bit %d has %d entries, but the bitmap is %#x", seed, v.bit, entries, s.Env.Memory.Peek(0))
			}
		}
	}
	if ends[[2]bool{true, true}] == 0 || ends[[2]bool{false, false}] == 0 {
		t.Errorf("the ends are %v, want some with entries and some with none and the bit 0", ends)
	}
}

// Machines at the same bit do not hinder one another: each of two Clears of a deque with an entry is done with Got in all orders, and the bit is 1 when both are done.
func TestTwoClears(t *testing.T) {
	x, y := bitmap.Clear(2, dequeBit, deque), bitmap.Clear(2, dequeBit, deque)
	for _, picks := range [][]int{{0, 1}, {0, 0, 1, 1}, {0, 0, 0, 1, 1, 1}, {0, 0, 0, 1, 0, 1}, {1, 0, 0, 0, 0, 1}, {1, 1, 1, 0, 1, 0, 0}} {
		s := opened(0, 1)
		xs := []machine.Machine{x.Copy(), y.Copy()}
		machine.Interleave(s.Env, xs, picks)
		for _, x := range xs {
			machine.Run(s.Env, x, 9)
			steptest.CheckResult(t, fmt.Sprintf("one of two Clears, picks %v", picks), x, api.Got, 0)
		}
		if bitOf(s) != 1 {
			t.Errorf("picks %v: two Clears are done, and the bit is 0", picks)
		}
	}
}
