package bitmap_test

import (
	"fmt"
	"math"
	"slices"
	"testing"

	"worksteal/api"
	"worksteal/bitmap"
	"worksteal/config"
	"worksteal/machine"
	"worksteal/owner"
	"worksteal/steptest"
)

// Contents of cells at the limits: the greatest one, and 2^63, which is the least int.
const (
	top  = math.MaxUint64
	half = 1 << 63
)

// A step is what a step of a machine must do. The tables of ways below are written with these short names.
type step = steptest.Step

var (
	none = steptest.None()
	load = steptest.Load
	or   = steptest.Or
	and  = steptest.And
)

// set returns the way of a Set through its line.
func set(what string, cells []uint64, cell, bit int, s step) steptest.Way {
	return steptest.Way{
		What:  fmt.Sprintf("Set(%d, %d), %s", cell, bit, what),
		Cells: cells,
		Make:  func() machine.Machine { return bitmap.Set(cell, bit) },
		Steps: []step{s},
		Code:  api.Fine,
	}
}

// clears returns the way of a Clear through its lines: it is done with Empty after three steps, and with Got after four.
func clears(what string, cells []uint64, cell, bit int, q api.Queue, steps ...step) steptest.Way {
	w := steptest.Way{
		What:  fmt.Sprintf("Clear(%d, %d, %v), %s", cell, bit, q, what),
		Cells: cells,
		Make:  func() machine.Machine { return bitmap.Clear(cell, bit, q) },
		Steps: steps,
		Code:  api.Empty,
	}
	if len(steps) == 4 {
		w.Code = api.Got
	}
	return w
}

// front is a deque whose Top is cell 0 and whose Bottom is cell 1. The bitmap of most ways is cell 2.
var front = api.Queue{Top: 0, Bottom: 1, Ring: 3, Cap: 2}

// mask returns the value of a bit, which is twice that of the bit before it, or 0 if no bit has this number.
func mask(bit int) uint64 {
	if bit < 0 || bit > 63 {
		return 0
	}
	v := uint64(1)
	for range bit {
		v += v
	}
	return v
}

// bits returns the numbers of all bits.
func bits() []int {
	var l []int
	for i := range 64 {
		l = append(l, i)
	}
	return l
}

// noBits returns numbers that no bit has; most of them become the number of a bit if they are cut off.
func noBits() []int {
	return []int{
		-1, -2, -59, -63, -64, -65, -256, 64, 65, 69, 100, 127, 128, 192, 256, 259, 1 << 32, 1<<32 + 3, -1 << 32, 1 << 62,
		math.MinInt, math.MinInt + 1, math.MinInt + 6, math.MinInt + 63, math.MinInt + 64, math.MaxInt, math.MaxInt - 1, math.MaxInt - 63,
	}
}

// contents returns words that a bitmap may contain.
func contents() []uint64 {
	return []uint64{0, top, 44, half, half - 1, 0xaaaaaaaaaaaaaaaa, 0x5555555555555555, 0x123456789abcdef0}
}

// without returns a word whose bits of a mask are 0.
func without(v, mask uint64) uint64 {
	if v/max(mask, 1)%2 == 1 {
		return v - mask
	}
	return v
}

// P12.1: every bit of a cell that contains one of some words, and numbers that no bit has.
func setBits(words ...uint64) []steptest.Way {
	var l []steptest.Way
	for _, v := range words {
		for _, bit := range bits() {
			l = append(l, set("a bit", []uint64{v, v, top - v}, 1, bit, or(1, v, without(v, mask(bit))+mask(bit))))
		}
		for _, bit := range noBits() {
			l = append(l, set("no bit", []uint64{v, v, top - v}, 1, bit, or(1, v, v)))
		}
	}
	return l
}

// P12.1 and R7: cells at both ends of the memory, and cells that do not exist.
func setCells() []steptest.Way {
	l := []steptest.Way{
		set("the first cell", []uint64{1, 2, 3}, 0, 5, or(0, 1, 33)),
		set("the last cell", []uint64{1, 2, 3}, 2, 5, or(2, 3, 35)),
		set("the only cell", []uint64{44}, 0, 63, or(0, 44, half+44)),
		set("a memory without cells", nil, 0, 5, none),
	}
	for _, cell := range []int{-1, -2, -3, 3, 4, 64, 1 << 32, -1 << 32, math.MinInt, math.MinInt + 1, math.MaxInt} {
		l = append(l, set("no cell", []uint64{1, 2, 3}, cell, 5, none), set("no cell and no bit", []uint64{1, 2, 3}, cell, 64, none))
	}
	return l
}

// P12.1: what another machine puts into the cell before the line.
func setOthers() []steptest.Way {
	return []steptest.Way{
		set("another bit is set before", []uint64{1, 2, 3}, 1, 5, or(1, 6, 38).After(1, 6)),
		set("the bit is set before", []uint64{1, 2, 3}, 1, 5, or(1, 34, 34).After(1, 34)),
		set("the bit is cleared before", []uint64{1, 34, 3}, 1, 5, or(1, 2, 34).After(1, 2)),
		set("all bits are set before", []uint64{1, 2, 3}, 1, 5, or(1, top, top).After(1, top)),
		set("all bits are cleared before", []uint64{1, 2, 3}, 1, 0, or(1, 0, 1).After(1, 0)),
		set("all bits are cleared before, without a bit", []uint64{1, 2, 3}, 1, -1, or(1, 0, 0).After(1, 0)),
	}
}

func TestSet(t *testing.T) { steptest.Check(t, setBits(contents()...)...) }

func TestSetCells(t *testing.T) { steptest.Check(t, setCells()...) }

func TestSetOthers(t *testing.T) { steptest.Check(t, setOthers()...) }

// P12.2: every bit of a cell that contains one of some words, and numbers that no bit has, of a deque that is empty and of one that has an entry.
func clearBits(words ...uint64) []steptest.Way {
	var l []steptest.Way
	for _, v := range words {
		for _, bit := range slices.Concat(bits(), noBits()) {
			low := without(v, mask(bit))
			l = append(l,
				clears("an empty deque", []uint64{3, 3, v, top - v}, 2, bit, front, and(2, v, low), load(1, 3), load(0, 3)),
				clears("a deque with an entry", []uint64{3, 4, v, top - v}, 2, bit, front, and(2, v, low), load(1, 4), load(0, 3), or(2, low, low+mask(bit))),
			)
		}
	}
	return l
}

// P12.2: the sizes for contents of Top and Bottom, wherever the indices begin. The size is from -2^63 to 2^63 - 1, and the capacity and the ring of the deque mean nothing to it.
func clearSizes() []steptest.Way {
	var l []steptest.Way
	add := func(t, b uint64, some bool) {
		for _, q := range []api.Queue{front, {Top: 0, Bottom: 1, Ring: -1}, {Top: 0, Bottom: 1, Ring: 2, Cap: -1}, {Top: 0, Bottom: 1, Ring: math.MinInt, Cap: math.MinInt}, {Top: 0, Bottom: 1, Ring: math.MaxInt, Cap: math.MaxInt}} {
			steps := []step{and(2, 44, 36), load(1, b), load(0, t)}
			if some {
				steps = append(steps, or(2, 36, 44))
			}
			l = append(l, clears(fmt.Sprintf("Top %d and Bottom %d", t, b), []uint64{t, b, 44, 7}, 2, 3, q, steps...))
		}
	}
	for _, t := range []uint64{0, 1, 2, 5, 1000, half - 2, half - 1, half, half + 1, half + 5, top - 1, top} {
		for _, n := range []uint64{1, 2, 3, 4, 64, half - 2, half - 1} {
			add(t, t+n, true)
		}
		for _, n := range []uint64{0, 1, 2, 5, half - 1, half} {
			add(t, t-n, false)
		}
	}
	return l
}

// P12.2 and R7: cells that do not exist. A line whose cell does not exist is a step all the same.
func clearCells() []steptest.Way {
	l := []steptest.Way{
		clears("the last cell", []uint64{3, 4, 44}, 2, 3, front, and(2, 44, 36), load(1, 4), load(0, 3), or(2, 36, 44)),
		clears("the first cell", []uint64{44, 3, 4}, 0, 3, api.Queue{Top: 1, Bottom: 2}, and(0, 44, 36), load(2, 4), load(1, 3), or(0, 36, 44)),
		clears("Bottom before Top", []uint64{4, 44, 3}, 1, 3, api.Queue{Top: 2, Bottom: 0}, and(1, 44, 36), load(0, 4), load(2, 3), or(1, 36, 44)),
		clears("Bottom before Top, which are equal", []uint64{4, 44, 4}, 1, 3, api.Queue{Top: 2, Bottom: 0}, and(1, 44, 36), load(0, 4), load(2, 4)),
		clears("a memory without cells", nil, 0, 3, front, none, none, none),
	}
	for _, no := range []int{-1, -2, 3, 4, 64, 1 << 32, -1 << 32, math.MinInt, math.MaxInt} {
		l = append(l,
			clears("no bitmap, an empty deque", []uint64{3, 3, 44}, no, 3, front, none, load(1, 3), load(0, 3)),
			clears("no bitmap, a deque with an entry", []uint64{3, 4, 44}, no, 3, front, none, load(1, 4), load(0, 3), none),
			clears("no Top, Bottom 0", []uint64{3, 0, 44}, 2, 3, api.Queue{Top: no, Bottom: 1}, and(2, 44, 36), load(1, 0), none),
			clears("no Top, Bottom 1", []uint64{3, 1, 44}, 2, 3, api.Queue{Top: no, Bottom: 1}, and(2, 44, 36), load(1, 1), none, or(2, 36, 44)),
			clears("no Top, Bottom 2^63", []uint64{3, half, 44}, 2, 3, api.Queue{Top: no, Bottom: 1}, and(2, 44, 36), load(1, half), none),
			clears("no Bottom, Top 0", []uint64{0, 4, 44}, 2, 3, api.Queue{Top: 0, Bottom: no}, and(2, 44, 36), none, load(0, 0)),
			clears("no Bottom, Top 1", []uint64{1, 4, 44}, 2, 3, api.Queue{Top: 0, Bottom: no}, and(2, 44, 36), none, load(0, 1)),
			clears("no Bottom, Top 2^64 - 1", []uint64{top, 4, 44}, 2, 3, api.Queue{Top: 0, Bottom: no}, and(2, 44, 36), none, load(0, top), or(2, 36, 44)),
			clears("no deque", []uint64{3, 4, 44}, 2, 3, api.Queue{Top: no, Bottom: no, Ring: no}, and(2, 44, 36), none, none),
			clears("no deque and no bitmap", []uint64{3, 4, 44}, no, 3, api.Queue{Top: no, Bottom: no, Ring: no}, none, none, none),
		)
	}
	return l
}

// P12.2: cells that coincide. What line 1 makes of a bitmap that is Top or Bottom is what the other lines load.
func clearOneCell() []steptest.Way {
	same := api.Queue{Top: 0, Bottom: 0}
	return []steptest.Way{
		clears("the bitmap is Top, which falls below Bottom", []uint64{7, 6}, 0, 1, front, and(0, 7, 5), load(1, 6), load(0, 5), or(0, 5, 7)),
		clears("the bitmap is Top, which falls to Bottom", []uint64{7, 5}, 0, 1, front, and(0, 7, 5), load(1, 5), load(0, 5)),
		clears("the bitmap is Top, which keeps its word", []uint64{5, 6}, 0, 1, front, and(0, 5, 5), load(1, 6), load(0, 5), or(0, 5, 7)),
		clears("the bitmap is Top, without a bit", []uint64{7, 8}, 0, 64, front, and(0, 7, 7), load(1, 8), load(0, 7), or(0, 7, 7)),
		clears("the bitmap is Top, with the bit 63", []uint64{half + 7, 8}, 0, 63, front, and(0, half+7, 7), load(1, 8), load(0, 7), or(0, 7, half+7)),
		clears("the bitmap is Bottom, which falls to Top", []uint64{4, 6}, 1, 1, front, and(1, 6, 4), load(1, 4), load(0, 4)),
		clears("the bitmap is Bottom, which stays above Top", []uint64{3, 6}, 1, 1, front, and(1, 6, 4), load(1, 4), load(0, 3), or(1, 4, 6)),
		clears("the bitmap is Bottom, without a bit", []uint64{3, 6}, 1, -1, front, and(1, 6, 6), load(1, 6), load(0, 3), or(1, 6, 6)),
		clears("the bitmap is a place of the ring", []uint64{3, 4, 5, 6}, 3, 2, front, and(3, 6, 2), load(1, 4), load(0, 3), or(3, 2, 6)),
		clears("Top is Bottom", []uint64{5, 7, 6}, 2, 1, same, and(2, 6, 4), load(0, 5), load(0, 5)),
		clears("Top is Bottom, which becomes less", []uint64{5, 7, 6}, 2, 1, same, and(2, 6, 4), load(0, 5), load(0, 4).After(0, 4), or(2, 4, 6)),
		clears("Top, Bottom and the bitmap are one cell", []uint64{6}, 0, 1, same, and(0, 6, 4), load(0, 4), load(0, 4)),
		clears("Top, Bottom and the bitmap are one cell, which becomes less", []uint64{6}, 0, 1, same, and(0, 6, 4), load(0, 4), load(0, 3).After(0, 3), or(0, 3, 3)),
	}
}

// P12.2: what another machine puts into Top and Bottom between two lines. The lines that load a cell see what it contains then, and line 4 belongs to what was loaded.
func clearOtherDeques() []steptest.Way {
	one := and(2, 44, 36)
	return []steptest.Way{
		clears("an owner pushes before line 1", []uint64{3, 3, 44}, 2, 3, front, one.After(1, 4), load(1, 4), load(0, 3), or(2, 36, 44)),
		clears("an owner pushes before line 2", []uint64{3, 3, 44}, 2, 3, front, one, load(1, 4).After(1, 4), load(0, 3), or(2, 36, 44)),
		clears("an owner pushes before line 3", []uint64{3, 3, 44}, 2, 3, front, one, load(1, 3), load(0, 3).After(1, 4)),
		clears("an owner pushes before lines 3 and 4", []uint64{3, 4, 44}, 2, 3, front, one, load(1, 4), load(0, 3).After(1, 5), or(2, 36, 44).After(1, 6)),
		clears("an owner pops before line 1", []uint64{3, 4, 44}, 2, 3, front, one.After(1, 3), load(1, 3), load(0, 3)),
		clears("an owner pops before line 2", []uint64{3, 4, 44}, 2, 3, front, one, load(1, 3).After(1, 3), load(0, 3)),
		clears("an owner pops before line 3", []uint64{3, 4, 44}, 2, 3, front, one, load(1, 4), load(0, 3).After(1, 3), or(2, 36, 44)),
		clears("an owner pops before line 4", []uint64{3, 4, 44}, 2, 3, front, one, load(1, 4), load(0, 3), or(2, 36, 44).After(1, 3)),
		clears("a thief takes the entry before line 1", []uint64{3, 4, 44}, 2, 3, front, one.After(0, 4), load(1, 4), load(0, 4)),
		clears("a thief takes the entry before line 2", []uint64{3, 4, 44}, 2, 3, front, one, load(1, 4).After(0, 4), load(0, 4)),
		clears("a thief takes the entry before line 3", []uint64{3, 4, 44}, 2, 3, front, one, load(1, 4), load(0, 4).After(0, 4)),
		clears("a thief takes the entry before line 4", []uint64{3, 4, 44}, 2, 3, front, one, load(1, 4), load(0, 3), or(2, 36, 44).After(0, 4)),
		clears("thieves take one of two entries before line 3", []uint64{3, 5, 44}, 2, 3, front, one, load(1, 5), load(0, 4).After(0, 4), or(2, 36, 44)),
		clears("thieves take two of two entries before line 3", []uint64{3, 5, 44}, 2, 3, front, one, load(1, 5), load(0, 5).After(0, 5)),
		clears("an entry is pushed and taken before line 3", []uint64{3, 3, 44}, 2, 3, front, one, load(1, 3), load(0, 4).After(1, 4).After(0, 4)),
		clears("Bottom falls below Top before line 2", []uint64{3, 4, 44}, 2, 3, front, one, load(1, 0).After(1, 0), load(0, 3)),
		clears("Top becomes less before line 3", []uint64{3, 3, 44}, 2, 3, front, one, load(1, 3), load(0, 2).After(0, 2), or(2, 36, 44)),
		clears("the size becomes the least one before line 3", []uint64{3, 4, 44}, 2, 3, front, one, load(1, 4), load(0, half+4).After(0, half+4)),
		clears("the size becomes the greatest one before line 3", []uint64{3, 4, 44}, 2, 3, front, one, load(1, 4), load(0, half+5).After(0, half+5), or(2, 36, 44)),
	}
}

// P12.2: what another machine puts into the bitmap between two lines. Each line leaves all other bits as they are then.
func clearOtherBits() []steptest.Way {
	one, two, three := and(2, 44, 36), load(1, 4), load(0, 3)
	return []steptest.Way{
		clears("other bits change before line 1", []uint64{3, 4, 44}, 2, 3, front, and(2, 25, 17).After(2, 25), two, three, or(2, 17, 25)),
		clears("the bit is cleared before line 1", []uint64{3, 4, 44}, 2, 3, front, and(2, 36, 36).After(2, 36), two, three, or(2, 36, 44)),
		clears("the bit is set before line 1", []uint64{3, 4, 36}, 2, 3, front, one.After(2, 44), two, three, or(2, 36, 44)),
		clears("the bit is set before line 2", []uint64{3, 4, 44}, 2, 3, front, one, two.After(2, 44), three, or(2, 44, 44)),
		clears("the bit is set before line 3", []uint64{3, 4, 44}, 2, 3, front, one, two, three.After(2, 44), or(2, 44, 44)),
		clears("the bit is set before line 4", []uint64{3, 4, 44}, 2, 3, front, one, two, three, or(2, 44, 44).After(2, 44)),
		clears("the bit of an empty deque is set before line 2", []uint64{3, 3, 44}, 2, 3, front, one, load(1, 3).After(2, 44), load(0, 3)),
		clears("the bit of an empty deque is set before line 3", []uint64{3, 3, 44}, 2, 3, front, one, load(1, 3), load(0, 3).After(2, 44)),
		clears("another bit is set before line 2", []uint64{3, 4, 44}, 2, 3, front, one, two.After(2, 37), three, or(2, 37, 45)),
		clears("another bit is cleared before line 3", []uint64{3, 4, 44}, 2, 3, front, one, two, three.After(2, 4), or(2, 4, 12)),
		clears("other bits change before lines 2, 3 and 4", []uint64{3, 4, 44}, 2, 3, front, one, two.After(2, 1), three.After(2, 2), or(2, 3, 11).After(2, 3)),
		clears("all bits are set before line 4", []uint64{3, 4, 44}, 2, 3, front, one, two, three, or(2, top, top).After(2, top)),
		clears("all bits are cleared before line 4", []uint64{3, 4, 44}, 2, 3, front, one, two, three, or(2, 0, 8).After(2, 0)),
		clears("all bits are cleared before line 4, without a bit", []uint64{3, 4, 44}, 2, 64, front, and(2, 44, 44), two, three, or(2, 0, 0).After(2, 0)),
		clears("other bits of an empty deque change before lines 2 and 3", []uint64{3, 3, 44}, 2, 3, front, one, load(1, 3).After(2, 1), load(0, 3).After(2, 2)),
	}
}

func TestClear(t *testing.T) { steptest.Check(t, clearBits(contents()...)...) }

func TestClearSizes(t *testing.T) { steptest.Check(t, clearSizes()...) }

func TestClearCells(t *testing.T) { steptest.Check(t, clearCells()...) }

func TestClearOneCell(t *testing.T) { steptest.Check(t, clearOneCell()...) }

func TestClearOthers(t *testing.T) {
	steptest.Check(t, clearOtherDeques()...)
	steptest.Check(t, clearOtherBits()...)
}

// The copy of a machine at each of its lines, and of one that is done, continues independently, whichever goes on first.
func TestCopy(t *testing.T) {
	steptest.CheckCopies(t, slices.Concat(setBits(44), setCells(), setOthers())...)
	steptest.CheckCopies(t, slices.Concat(clearBits(44), clearSizes(), clearCells(), clearOneCell(), clearOtherDeques(), clearOtherBits())...)
}

// A machine and its copies go different ways, step by step in turn, if their memories differ.
func TestCopyGoesAnotherWay(t *testing.T) {
	e, x := steptest.Filled([]uint64{3, 4, 44}), bitmap.Clear(2, 3, front)
	steptest.CheckStep(t, "line 1", e, x, and(2, 44, 36), false)
	f, y := e.Copy(), x.Copy()
	steptest.CheckStep(t, "line 2 of the copy", f, y, load(1, 3).After(1, 3), false)
	steptest.CheckStep(t, "line 2 of the original", e, x, load(1, 4), false)
	steptest.CheckStep(t, "line 3 of the copy", f, y, load(0, 3), true)
	g, z := e.Copy(), x.Copy()
	steptest.CheckStep(t, "line 3 of the second copy", g, z, load(0, 4).After(0, 4), true)
	steptest.CheckResult(t, "the original while the copies are done", x, 0, 0)
	steptest.CheckStep(t, "line 3 of the original", e, x, load(0, 3), false)
	steptest.CheckStep(t, "line 4 of the original", e, x, or(2, 36, 44), true)
	steptest.CheckResult(t, "the copy", y, api.Empty, 0)
	steptest.CheckResult(t, "the second copy", z, api.Empty, 0)
	steptest.CheckResult(t, "the original", x, api.Got, 0)

	e, x = steptest.Filled([]uint64{3, 4, 44}), bitmap.Set(2, 4)
	y = x.Copy()
	steptest.CheckStep(t, "Set", e, x, or(2, 44, 60), true)
	steptest.CheckResult(t, "the copy while Set is done", y, 0, 0)
	steptest.CheckStep(t, "the copy of Set", e, y, or(2, 44, 60).After(2, 44), true)
}

// R6: a machine that is given to another environment keeps what it has loaded, and accesses the cells of that one.
func TestOtherEnvironment(t *testing.T) {
	x := bitmap.Clear(2, 3, front)
	steptest.CheckStep(t, "line 1", steptest.Filled([]uint64{8, 8, 44}), x, and(2, 44, 36), false)
	steptest.CheckStep(t, "line 2", steptest.Filled([]uint64{8, 4, 45}), x, load(1, 4), false)
	steptest.CheckStep(t, "line 3", steptest.Filled([]uint64{3, 0, 46}), x, load(0, 3), false)
	steptest.CheckStep(t, "line 4", steptest.Filled([]uint64{8, 8, 3}), x, or(2, 3, 11), true)
	steptest.CheckStep(t, "a step when it is done", steptest.Filled([]uint64{0, 1, 44}), x, none, true)
	steptest.CheckResult(t, "Clear", x, api.Got, 0)

	// A step without an access for want of cells is a step as well.
	x = bitmap.Clear(2, 3, front)
	steptest.CheckStep(t, "line 1 without cells", machine.Bare(0), x, none, false)
	steptest.CheckStep(t, "line 2 without cells", machine.Bare(0), x, none, false)
	steptest.CheckStep(t, "line 3 behind them", steptest.Filled([]uint64{top, 8, 44}), x, load(0, top), false)
	steptest.CheckStep(t, "line 4 without cells", machine.Bare(0), x, none, true)
	steptest.CheckResult(t, "Clear of a bit that does not exist", x, api.Got, 0)

	x = bitmap.Set(2, 3)
	steptest.CheckStep(t, "Set without cells", machine.Bare(0), x, none, true)
	steptest.CheckStep(t, "Set, done", steptest.Filled([]uint64{0, 0, 0}), x, none, true)
	steptest.CheckResult(t, "Set", x, api.Fine, 0)
}

// P12.1, P12.2 and R2: the bitmaps and deques of an environment that New returned; machines that are made by equal calls behave equally, and nothing but the memory changes.
func TestRealBitmaps(t *testing.T) {
	few, most := config.Decode([]byte{2, 3, 0, 4, 2}), config.Decode([]byte{1, 63, 0, 0, 1})
	for _, c := range []api.Config{few, most} {
		e, err := machine.New(c)
		if err != api.OK {
			t.Fatalf("New returns the error %d", err)
		}
		f := e.Copy()
		for worker := range c.Workers {
			checkRealSet(t, e, f, worker)
		}
		for worker := range c.Workers {
			for level := range c.Levels {
				checkRealClear(t, e, f, worker, level)
			}
			if g := e.Memory.Peek(e.Layout.Bitmap(worker)); g != 0 {
				t.Errorf("all deques of worker %d are empty again, but its bitmap is %d", worker, g)
			}
		}
		// There is no such worker: no bitmap, and no deque.
		count := e.Memory.Count()
		for _, x := range []machine.Machine{bitmap.Set(e.Layout.Bitmap(c.Workers), 0), bitmap.Clear(e.Layout.Bitmap(-1), 0, e.Layout.Queue(-1, 0))} {
			machine.Run(e, x, 10)
		}
		if e.Memory.Count() != count {
			t.Errorf("machines without a bitmap made %d accesses", e.Memory.Count()-count)
		}
	}
}

// checkRealSet sets the bits of all levels of a worker, from the least one on.
func checkRealSet(t *testing.T, e, f *machine.Env, worker int) {
	t.Helper()
	cell := e.Layout.Bitmap(worker)
	want := uint64(0)
	for level := range e.Config.Levels {
		x := bitmap.Set(cell, level)
		steptest.CheckEqual(t, "Set", e, f, x, bitmap.Set(cell, level))
		steptest.CheckResult(t, "Set", x, api.Fine, 0)
		want += mask(level)
		if g := e.Memory.Peek(cell); g != want {
			t.Errorf("the bitmap of worker %d is %#x behind the Set of %d, want %#x", worker, g, level, want)
		}
	}
}

// checkRealClear clears the bit of a level, which is 1, while the deque has none, one and all of the entries that it can have, and while they are taken again. At the end the bit is 0.
func checkRealClear(t *testing.T, e, f *machine.Env, worker, level int) {
	t.Helper()
	cell, q := e.Layout.Bitmap(worker), e.Layout.Queue(worker, level)
	before := e.Memory.Peek(cell)
	check := func(what string, entries int) {
		t.Helper()
		what = fmt.Sprintf("%s: Clear of the bit of worker %d and level %d with %d entries", what, worker, level, entries)
		x := bitmap.Clear(cell, level, q)
		steptest.CheckEqual(t, what, e, f, x, bitmap.Clear(cell, level, q))
		code, want := api.Got, before
		if entries == 0 {
			code, want = api.Empty, before-mask(level)
		}
		steptest.CheckResult(t, what, x, code, 0)
		if g := e.Memory.Peek(cell); g != want {
			t.Errorf("%s: the bitmap is %d, want %d", what, g, want)
		}
	}
	for entries := range q.Cap + 1 {
		check("pushing", entries)
		steptest.CheckEqual(t, "Push", e, f, owner.Push(q, entries), owner.Push(q, entries))
	}
	for entries := q.Cap; entries >= 0; entries-- {
		check("popping", entries)
		steptest.CheckEqual(t, "Pop", e, f, owner.Pop(q), owner.Pop(q))
	}
}

// A model performs the lines of the chapter with bits that are counted one by one.
type model struct {
	set       bool
	cell, bit int
	q         api.Queue
	line      int
	b, t      uint64
	code      int
}

// access replaces the contents of a cell, and returns what must be done for it and what the cell contained; none and 0 if it does not exist.
func access(cells []uint64, kind, cell int, change func(x uint64) uint64) (step, uint64) {
	if cell < 0 || cell >= len(cells) {
		return none, 0
	}
	x := cells[cell]
	cells[cell] = change(x)
	return step{Access: api.Access{Kind: kind, Cell: cell, Old: x, New: cells[cell]}}, x
}

// bits returns a word whose bits are those of x, but for the one of the model, which is v.
func (m *model) bits(x, v uint64) uint64 {
	var sum uint64
	for i := range 64 {
		digit := x / mask(i) % 2
		if i == m.bit {
			digit = v
		}
		sum += digit * mask(i)
	}
	return sum
}

// step performs the next line on cells, and returns its access.
func (m *model) step(cells []uint64) step {
	var s step
	m.line++
	switch line := m.line - 1; {
	case m.set:
		s, _ = access(cells, api.AccessOr, m.cell, func(x uint64) uint64 { return m.bits(x, 1) })
		m.line, m.code = 0, api.Fine
	case line == 1:
		s, _ = access(cells, api.AccessAnd, m.cell, func(x uint64) uint64 { return m.bits(x, 0) })
	case line == 2:
		s, m.b = access(cells, api.AccessLoad, m.q.Bottom, func(x uint64) uint64 { return x })
	case line == 3:
		s, m.t = access(cells, api.AccessLoad, m.q.Top, func(x uint64) uint64 { return x })
		// The sizes from 1 to 2^63 - 1 are those that are positive.
		if m.b-m.t-1 >= half-1 {
			m.line, m.code = 0, api.Empty
		}
	default:
		s, _ = access(cells, api.AccessOr, m.cell, func(x uint64) uint64 { return m.bits(x, 1) })
		m.line, m.code = 0, api.Got
	}
	return s
}

// way plays the model to the end, while another machine puts something into cells now and then, and returns its way with the numbers of its lines.
func (m model) way(cells []uint64, some func(n int) int) (w steptest.Way, lines string) {
	w = clears("", slices.Clone(cells), m.cell, m.bit, m.q)
	if m.set {
		w = set("", slices.Clone(cells), m.cell, m.bit, none)
		w.Steps = nil
	}
	for m.line != 0 {
		lines += fmt.Sprint(m.line)
		var puts []steptest.Put
		if some(3) == 0 {
			p := steptest.Put{Cell: some(len(cells))}
			p.V = cells[p.Cell] + uint64(some(4)) - 1
			puts = append(puts, p)
			cells[p.Cell] = p.V
		}
		s := m.step(cells)
		s.Puts = puts
		w.Steps = append(w.Steps, s)
	}
	w.Code = m.code
	w.What += fmt.Sprintf("lines %s on %v", lines, w.Cells)
	return w, lines
}

// P12.1, P12.2 and R1: machines with arguments of all kinds, on cells of all contents, while another machine puts something into cells now and then, do what the model does. Each way through the lines occurs.
func TestModel(t *testing.T) {
	some := steptest.Mixed(9)
	words := slices.Concat(contents(), []uint64{1, 2, 3, 4, half + 1, half + 2, top - 1, top - 2})
	cellNumbers := []int{0, 1, 2, 2, 2, 3, 4, 5, -1, 6, math.MinInt, math.MaxInt}
	seen := map[string]int{}
	for range 20000 {
		m := model{set: some(4) == 0, cell: cellNumbers[some(len(cellNumbers))], bit: some(64), q: api.Queue{Top: 0, Bottom: 1, Ring: some(9), Cap: some(9) - 2}, line: 1}
		if some(4) == 0 {
			m.bit = noBits()[some(len(noBits()))]
		}
		if some(4) == 0 {
			m.q.Top, m.q.Bottom = cellNumbers[some(len(cellNumbers))], cellNumbers[some(len(cellNumbers))]
		}
		cells := make([]uint64, 6)
		for i := range cells {
			cells[i] = words[some(len(words))]
		}
		// Most deques have a few entries.
		if some(5) != 0 {
			cells[1] = cells[0] + uint64(some(5)) - 1
		}
		w, lines := m.way(cells, some)
		seen[fmt.Sprint(lines, " ", w.Code)]++
		if steptest.Check(t, w); t.Failed() {
			return
		}
	}
	for _, way := range []string{fmt.Sprint("1 ", api.Fine), fmt.Sprint("123 ", api.Empty), fmt.Sprint("1234 ", api.Got)} {
		if seen[way] == 0 {
			t.Errorf("the way %s did not occur, so that it was not tested", way)
		}
		delete(seen, way)
	}
	if len(seen) != 0 {
		t.Errorf("there are other ways: %v", seen)
	}
}

// The chapter's example.
func TestExample(t *testing.T) {
	e := machine.Bare(6)
	e.Memory.Store(2, 44)
	x := bitmap.Clear(2, 3, front)
	if n, done := machine.Run(e, x, 100); n != 3 || !done || e.Memory.Peek(2) != 36 {
		t.Errorf("example 1, an empty deque: %d steps, done is %t, and the bitmap is %d, want 3 steps and 36", n, done, e.Memory.Peek(2))
	}
	steptest.CheckResult(t, "example 1, an empty deque", x, api.Empty, 0)

	machine.Run(e, owner.Push(front, 7), 100)
	machine.Run(e, bitmap.Set(2, 3), 100)
	x = bitmap.Clear(2, 3, front)
	if n, done := machine.Run(e, x, 3); n != 3 || done || e.Memory.Peek(2) != 36 {
		t.Errorf("example 1, a deque with an entry: %d steps, done is %t, and the bitmap is %d, want 3 steps and 36", n, done, e.Memory.Peek(2))
	}
	if n, done := machine.Run(e, x, 100); n != 1 || !done || e.Memory.Peek(2) != 44 {
		t.Errorf("example 1, a deque with an entry: %d more steps, done is %t, and the bitmap is %d, want 1 step and 44", n, done, e.Memory.Peek(2))
	}
	steptest.CheckResult(t, "example 1, a deque with an entry", x, api.Got, 0)
}
