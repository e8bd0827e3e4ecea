package lock_test

import (
	"fmt"
	"math"
	"slices"
	"testing"

	"worksteal/api"
	"worksteal/config"
	"worksteal/lock"
	"worksteal/machine"
	"worksteal/steptest"
)

// Contents of cells at the limits: the greatest one, and 2^63, which is the least int.
const (
	top  = math.MaxUint64
	half = 1 << 63
)

// cell is the cell of the lock, as chapter 6 counts the cells: behind the number of tasks that were asked for.
const cell = 1

// A step is what a step of a machine must do. The tables of ways below are written with these short names.
type step = steptest.Step

var none = steptest.None()

// take returns the step that takes a free lock for an owner, whose word the lock contains then.
func take(word uint64) step { return steptest.CAS(cell, 0, word) }

// wait returns the step that finds a lock held, which contains a word and keeps it.
func wait(word uint64) step { return steptest.CAS(cell, word, word) }

// free returns the step that releases a lock that contains a word.
func free(word uint64) step { return steptest.Store(cell, word, 0) }

// locked returns an environment whose lock contains a word, beside cells that contain others.
func locked(word uint64) *machine.Env {
	return steptest.Made(config.Decode(nil), steptest.Put{Cell: 0, V: 7}, steptest.Put{Cell: cell, V: word}, steptest.Put{Cell: 2, V: 8}, steptest.Put{Cell: 3, V: 9})
}

// way returns the way of a machine through its lines where the lock contains a word at first.
func way(what string, word uint64, begin func() machine.Machine, code int, steps ...step) steptest.Way {
	return steptest.Way{What: fmt.Sprintf("%s, of a lock that contains %d", what, word), Env: locked(word), Make: begin, Steps: steps, Code: code}
}

// acquires returns the way of an Acquire, which gets the lock with the last step.
func acquires(what string, word uint64, owner int, steps ...step) steptest.Way {
	return way(fmt.Sprintf("Acquire(%d), %s", owner, what), word, func() machine.Machine { return lock.Acquire(owner) }, api.Got, steps...)
}

// tries returns the way of a Try that is done with a code.
func tries(what string, word uint64, owner, code int, s step) steptest.Way {
	return way(fmt.Sprintf("Try(%d), %s", owner, what), word, func() machine.Machine { return lock.Try(owner) }, code, s)
}

// releases returns the way of a Release.
func releases(what string, word uint64, s step) steptest.Way {
	return way("Release, "+what, word, lock.Release, api.Fine, s)
}

// A holder is an owner, and the word that a lock contains which it holds.
type holder struct {
	owner int
	word  uint64
}

// holders returns owners: workers, clients, and numbers that no machine has. They have different words, which are not 0.
func holders() []holder {
	return []holder{
		{0, 1}, {1, 2}, {2, 3}, {15, 16}, {16, 17}, {63, 64}, {64, 65}, {255, 256}, {1<<32 - 2, 1<<32 - 1}, {1<<32 - 1, 1 << 32}, {1 << 32, 1<<32 + 1},
		{math.MaxInt - 1, half - 1}, {math.MaxInt, half}, {math.MinInt, half + 1}, {math.MinInt + 1, half + 2},
		{-1 << 32, top - 1<<32 + 2}, {-64, top - 62}, {-3, top - 1}, {-2, top},
	}
}

// unlikely is the owner whose word is 0, so that a lock is free also if this one holds it.
const unlikely = -1

// P15.1: a free lock, for owners of all kinds. The one whose word is 0 gets it as well.
func acquireFree() []steptest.Way {
	l := []steptest.Way{acquires("whose word is 0", 0, unlikely, take(0))}
	for _, h := range holders() {
		l = append(l, acquires("at once", 0, h.owner, take(h.word)))
	}
	return l
}

// P15.1: a lock that is held by others, and by the same owner, until it becomes free.
func acquireHeld() []steptest.Way {
	var l []steptest.Way
	for _, x := range holders() {
		l = append(l, acquires("held, for one whose word is 0", x.word, unlikely, wait(x.word), wait(x.word), take(0).After(cell, 0)))
		for _, h := range holders() {
			l = append(l, acquires("held", x.word, h.owner, wait(x.word), wait(x.word), wait(x.word), take(h.word).After(cell, 0)))
		}
	}
	return l
}

// P15.1: what other machines put into the lock before a line. What it contains at the line itself decides, and nothing else.
func acquireOthers() []steptest.Way {
	return []steptest.Way{
		acquires("it is taken before line 1, and becomes free", 0, 3, wait(9).After(cell, 9), take(4).After(cell, 0)),
		acquires("it becomes free before line 1", 9, 3, take(4).After(cell, 0)),
		acquires("it becomes free before the second step", 9, 3, wait(9), take(4).After(cell, 0)),
		acquires("it becomes free and is taken again by the same one", 9, 3, wait(9), wait(9).After(cell, 0).After(cell, 9), take(4).After(cell, 0)),
		acquires("it becomes free and is taken by another one", 9, 3, wait(9), wait(2).After(cell, 0).After(cell, 2), wait(2), take(4).After(cell, 0)),
		acquires("it is passed on with each step", 9, 3, wait(1).After(cell, 1), wait(2).After(cell, 2), wait(4).After(cell, 4), wait(top).After(cell, top), take(4).After(cell, 0)),
		acquires("it is taken and becomes free again", 0, 3, take(4).After(cell, 9).After(cell, 0)),
		acquires("it is taken with the same word", 0, 3, wait(4).After(cell, 4), wait(4), take(4).After(cell, 0)),
		acquires("it contains 2^64 - 1, then 2^63, then 1", top, 0, wait(top), wait(half).After(cell, half), wait(1).After(cell, 1), take(1).After(cell, 0)),
		acquires("other cells become 0", 9, 3, wait(9).After(0, 0), wait(9).After(2, 0), wait(9).After(3, 0), take(4).After(cell, 0)),
	}
}

// P15.2: a free lock and held ones, for owners of all kinds, of which one is the same as the holder. The lock changes only where it was free.
func tryAll() []steptest.Way {
	l := []steptest.Way{tries("free, for one whose word is 0", 0, unlikely, api.Got, take(0))}
	for _, h := range holders() {
		l = append(l, tries("free", 0, h.owner, api.Got, take(h.word)), tries("held, for one whose word is 0", h.word, unlikely, api.Busy, wait(h.word)))
		for _, x := range holders() {
			l = append(l, tries("held", x.word, h.owner, api.Busy, wait(x.word)))
		}
	}
	return l
}

// P15.2: what other machines put into the lock before the line.
func tryOthers() []steptest.Way {
	return []steptest.Way{
		tries("it is taken before", 0, 3, api.Busy, wait(9).After(cell, 9)),
		tries("it is taken with the same word before", 0, 3, api.Busy, wait(4).After(cell, 4)),
		tries("it becomes free before", 9, 3, api.Got, take(4).After(cell, 0)),
		tries("it becomes free and is taken before", 9, 3, api.Busy, wait(2).After(cell, 0).After(cell, 2)),
		tries("it contains 2^64 - 1 before", 0, 3, api.Busy, wait(top).After(cell, top)),
		tries("other cells become 0 before", 9, 3, api.Busy, wait(9).After(0, 0).After(2, 0).After(3, 0)),
	}
}

// P15.3: a lock that is free or held by anyone, and what other machines put into it before the line.
func releaseAll() []steptest.Way {
	l := []steptest.Way{
		releases("free", 0, free(0)),
		releases("it becomes free before", 9, free(0).After(cell, 0)),
		releases("it is taken before", 0, free(9).After(cell, 9)),
		releases("it is passed on before", 9, free(top).After(cell, 0).After(cell, top)),
	}
	for _, h := range holders() {
		l = append(l, releases("held", h.word, free(h.word)))
	}
	return l
}

func TestAcquireFree(t *testing.T) { steptest.Check(t, acquireFree()...) }

func TestAcquireHeld(t *testing.T) { steptest.Check(t, acquireHeld()...) }

func TestAcquireOthers(t *testing.T) { steptest.Check(t, acquireOthers()...) }

func TestTry(t *testing.T) { steptest.Check(t, tryAll()...) }

func TestTryOthers(t *testing.T) { steptest.Check(t, tryOthers()...) }

func TestRelease(t *testing.T) { steptest.Check(t, releaseAll()...) }

// P15.1: while the lock is held, the line is performed again and again, each time with one access and without any end. Behind all of that a Release lets the machine get the lock with its next step.
func TestAcquireForLong(t *testing.T) {
	const long = 10000
	for _, word := range []uint64{1, 2, 3, 64, half - 1, half, half + 1, top - 1, top} {
		for _, owner := range []int{0, 1, 63, unlikely, math.MaxInt, math.MinInt} {
			what := fmt.Sprintf("Acquire(%d) of a lock that contains %d for long", owner, word)
			e, x := locked(word), lock.Acquire(owner)
			cells, count := e.Memory.Cells(), e.Memory.Count()
			if n, done := machine.Run(e, x, long); n != long || done {
				t.Errorf("%s: %d steps, done is %t", what, n, done)
			}
			steptest.CheckResult(t, what, x, 0, 0)
			if g := e.Memory.Count() - count; g != long || e.Memory.Last() != wait(word).Access || !slices.Equal(e.Memory.Cells(), cells) {
				t.Errorf("%s: %d accesses, the last one is %v, and the cells are %v, want %v", what, g, e.Memory.Last(), e.Memory.Cells(), cells)
			}
			steptest.CheckStep(t, what+", Release", e, lock.Release(), free(word), true)
			steptest.CheckStep(t, what+", behind the Release", e, x, take(uint64(owner+1)), true)
			steptest.CheckResult(t, what+", behind the Release", x, api.Got, 0)
		}
	}
}

// Chapter 8: copies before the first step, between steps and behind the end.
func TestCopies(t *testing.T) {
	steptest.CheckCopies(t, slices.Concat(acquireFree(), acquireOthers(), tryOthers(), releaseAll())...)
	steptest.CheckCopies(t,
		acquires("held", 9, 3, wait(9), wait(9), wait(9), take(4).After(cell, 0)),
		tries("held", 9, 3, api.Busy, wait(9)),
		tries("free", 0, 3, api.Got, take(4)),
	)
}

// Chapter 8: a machine and its copy at the same lock. One of them gets it, whichever goes on first, and the other one waits for it like anyone else.
func TestCopyAtTheSameLock(t *testing.T) {
	for waits := range 4 {
		for first := range 2 {
			what := fmt.Sprintf("%d steps before the copy, machine %d goes on first", waits, first)
			e, x := locked(9), lock.Acquire(3)
			for range waits {
				steptest.CheckStep(t, what, e, x, wait(9), false)
			}
			both := []machine.Machine{x, x.Copy()}
			x, y := both[first], both[1-first]
			steptest.CheckStep(t, what, e, x, take(4).After(cell, 0), true)
			z := x.Copy()
			for range 3 {
				steptest.CheckStep(t, what+", the second one", e, y, wait(4), false)
				steptest.CheckResult(t, what+", the second one", y, 0, 0)
				steptest.CheckStep(t, what+", the first one", e, x, none, true)
			}
			steptest.CheckStep(t, what+", the second one", e, y, take(4).After(cell, 0), true)
			steptest.CheckStep(t, what+", the copy of the first one", e, z, none.After(cell, 0), true)
			for _, m := range []machine.Machine{x, y, z} {
				steptest.CheckResult(t, what, m, api.Got, 0)
			}
		}
	}
}

// R6 and chapter 8: a machine that waits in one environment goes on in others, and one that is done does nothing there.
func TestOtherEnvironments(t *testing.T) {
	e, f, g := locked(9), locked(0), steptest.Filled([]uint64{5, 8, 6})
	x := lock.Acquire(3)
	steptest.CheckStep(t, "the first environment", e, x, wait(9), false)
	steptest.CheckStep(t, "another one, of a bare memory", g, x, wait(8), false)
	steptest.CheckStep(t, "one in which the lock is free", f, x, take(4), true)
	steptest.CheckStep(t, "the first environment, done", e, x, none.After(cell, 0), true)
	steptest.CheckResult(t, "done", x, api.Got, 0)
}

// configs returns configurations: the least one, one with submissions, and the greatest one.
func configs() []api.Config {
	full := api.Config{Workers: 2, Levels: 3, Classes: 2, Tasks: 5, Deque: 4, Heap: 3, Batch: 2, Age: 3, Patience: 4,
		Progs: [][]api.Instr{{{Op: api.Compute, A: 3}, {Op: api.Spawn, A: 1, B: 2}, {Op: api.Join}}, {}},
		Subs:  []api.Submission{{Prog: 0, Level: 1, Deadline: 9}, {Prog: 1, Level: 2, Deadline: 4}}}
	greatest := api.Config{Workers: 16, Levels: 64, Classes: 8, Tasks: 256, Deque: 64, Heap: 64, Batch: 64, Age: 65536, Patience: 65536, Progs: [][]api.Instr{{}}}
	return []api.Config{config.Decode(nil), full, greatest}
}

// P15.1 to P15.3: the lock of every configuration is the one cell that its layout says, for the client and each of its workers.
func TestConfigurations(t *testing.T) {
	for _, c := range configs() {
		e := steptest.Made(c)
		if g := e.Layout.Lock(); g != cell {
			t.Fatalf("the cell of the lock is %d, want %d", g, cell)
		}
		for _, owner := range []int{0, c.Workers - 1, c.Workers} {
			word := uint64(owner + 1)
			x := lock.Acquire(owner + 1)
			steptest.CheckStep(t, "Acquire", e, lock.Acquire(owner), take(word), true)
			steptest.CheckStep(t, "Try of another one", e, lock.Try(owner+2), wait(word), true)
			steptest.CheckStep(t, "Acquire of another one", e, x, wait(word), false)
			steptest.CheckStep(t, "Release", e, lock.Release(), free(word), true)
			steptest.CheckStep(t, "Acquire of the other one, again", e, x, take(word+1), true)
			steptest.CheckStep(t, "Release of the other one", e, lock.Release(), free(word+1), true)
			steptest.CheckStep(t, "Try", e, lock.Try(owner), take(word), true)
			steptest.CheckStep(t, "Release behind Try", e, lock.Release(), free(word), true)
		}
	}
}

// Chapter 2 and R7: where the memory has no such cell, each line is a step without an access, and a CAS returns false. Two cells are enough for a lock.
func TestNoCell(t *testing.T) {
	for _, cells := range [][]uint64{nil, {0}, {7}} {
		for _, owner := range []int{0, 63, unlikely, math.MaxInt} {
			what := fmt.Sprintf("owner %d, cells %v", owner, cells)
			e, x := steptest.Filled(cells), lock.Acquire(owner)
			for range 50 {
				steptest.CheckStep(t, "Acquire, "+what, e, x, none, false)
				steptest.CheckResult(t, "Acquire, "+what, x, 0, 0)
			}
			y, z := lock.Try(owner), lock.Release()
			steptest.CheckStep(t, "Try, "+what, e, y, none, true)
			steptest.CheckResult(t, "Try, "+what, y, api.Busy, 0)
			steptest.CheckStep(t, "Release, "+what, e, z, none, true)
			steptest.CheckResult(t, "Release, "+what, z, api.Fine, 0)
			steptest.CheckStep(t, "Acquire behind Release, "+what, e, x, none, false)
			steptest.CheckStep(t, "Acquire with two cells, "+what, steptest.Filled([]uint64{7, 0}), x, take(uint64(owner+1)), true)
		}
	}
}

// R2 and R6: machines of equal calls behave equally in equal environments, also those that were made before or between the steps of others.
func TestEqualCalls(t *testing.T) {
	owners := []int{unlikely}
	for _, h := range holders() {
		owners = append(owners, h.owner)
	}
	for _, owner := range owners {
		x, y := lock.Acquire(owner), lock.Acquire(owner)
		e, f := locked(0), locked(0)
		steptest.CheckEqual(t, "Acquire", e, f, x, y)
		steptest.CheckEqual(t, "Try of a held lock", e, f, lock.Try(owner), lock.Try(owner))
		steptest.CheckEqual(t, "Release", e, f, lock.Release(), lock.Release())
		steptest.CheckEqual(t, "Try of a free lock", e, f, lock.Try(owner), lock.Try(owner))
		steptest.CheckEqual(t, "Release behind Try", e, f, lock.Release(), lock.Release())
		steptest.CheckEqual(t, "Acquire once more", e, f, lock.Acquire(owner), lock.Acquire(owner))
		steptest.CheckEqual(t, "Acquire that is done", e, f, x, y)
	}
}

// The chapter's example.
func TestExample(t *testing.T) {
	e := locked(0)
	x, y, z := lock.Acquire(0), lock.Acquire(1), lock.Release()
	if n, done := machine.Run(e, x, 100); n != 1 || !done || e.Memory.Peek(cell) != 1 {
		t.Errorf("example 1: Acquire(0) takes %d steps, done is %t, and the lock contains %d", n, done, e.Memory.Peek(cell))
	}
	if n, done := machine.Run(e, y, 100); n != 100 || done || e.Memory.Peek(cell) != 1 {
		t.Errorf("example 1: Acquire(1) is done: %t, after %d steps, and the lock contains %d", done, n, e.Memory.Peek(cell))
	}
	if n, done := machine.Run(e, z, 100); n != 1 || !done || e.Memory.Peek(cell) != 0 {
		t.Errorf("example 1: Release takes %d steps, done is %t, and the lock contains %d", n, done, e.Memory.Peek(cell))
	}
	if n, done := machine.Run(e, y, 100); n != 1 || !done || e.Memory.Peek(cell) != 2 {
		t.Errorf("example 1: Acquire(1) behind Release takes %d steps, done is %t, and the lock contains %d", n, done, e.Memory.Peek(cell))
	}
	steptest.CheckResult(t, "example 1, Acquire(0)", x, api.Got, 0)
	steptest.CheckResult(t, "example 1, Acquire(1)", y, api.Got, 0)
	steptest.CheckResult(t, "example 1, Release", z, api.Fine, 0)
}
