package lock_test

import (
	"fmt"
	"math"
	"slices"
	"strings"
	"testing"

	"worksteal/api"
	"worksteal/lock"
	"worksteal/machine"
	"worksteal/steptest"
)

// A visitor asks for the lock with an Acquire for each a of asks, and with a Try for each t. It releases what it got before it asks again.
type visitor struct {
	owner int
	asks  string
	// x is the machine at work, nil between two of them, and waits how many steps it has made.
	x     machine.Machine
	waits int
	holds bool
}

// A crowd is visitors of one lock.
type crowd struct {
	e   *machine.Env
	all []visitor
}

// meet returns a crowd at a free lock. Visitor i has owner i of the list, and the asks with this number.
func meet(owners []int, asks ...string) crowd {
	c := crowd{e: locked(0)}
	for i, owner := range owners {
		c.all = append(c.all, visitor{owner: owner, asks: asks[i%len(asks)]})
	}
	return c
}

// over reports whether a visitor has nothing left to do.
func (v visitor) over() bool { return v.asks == "" && !v.holds }

// begin returns the next machine of a visitor.
func (v visitor) begin() machine.Machine {
	switch {
	case v.holds:
		return lock.Release()
	case v.asks[0] == 'a':
		return lock.Acquire(v.owner)
	}
	return lock.Try(v.owner)
}

// step returns a visitor behind a step. It holds the lock from the step on with which it gets it, to the one with which its Release is done.
func (v visitor) step(e *machine.Env) visitor {
	if v.x == nil {
		v.x = v.begin()
	}
	if !v.x.Step(e) {
		v.waits++
		return v
	}
	code, _ := v.x.Result()
	if !v.holds {
		v.asks = v.asks[1:]
	}
	v.x, v.waits, v.holds = nil, 0, code == api.Got
	return v
}

// step returns the crowd behind a step of a visitor. The crowd itself stays as it is.
func (c crowd) step(i int) crowd {
	d := crowd{c.e.Copy(), slices.Clone(c.all)}
	v := d.all[i]
	if v.x != nil {
		v.x = v.x.Copy()
	}
	d.all[i] = v.step(d.e)
	return d
}

// key returns a text on which depends all that can follow. A machine that has waited three times does what one does that has waited longer.
func (c crowd) key() string {
	var key strings.Builder
	fmt.Fprint(&key, c.e.Memory.Cells())
	for _, v := range c.all {
		fmt.Fprint(&key, " ", v.asks, min(v.waits, 3), v.holds)
	}
	return key.String()
}

// holder returns the visitor that holds the lock, or -1, and how many do.
func (c crowd) holder() (i, n int) {
	i = -1
	for k, v := range c.all {
		if v.holds {
			i, n = k, n+1
		}
	}
	return i, n
}

// check reports an error if more than one visitor holds the lock, or if the lock does not contain the word of the holder, or 0 if there is none.
func (c crowd) check(t *testing.T) {
	t.Helper()
	i, n := c.holder()
	var want uint64
	if n > 0 {
		want = uint64(c.all[i].owner + 1)
	}
	if g := c.e.Memory.Peek(cell); n > 1 || g != want {
		t.Errorf("%d visitors hold the lock, which contains %d, want %d: %s", n, g, want, c.key())
	}
}

// A tally counts the steps of visitors that ask: those that get the lock, and those that find it held.
type tally struct{ got, waited, busy int }

// count counts the step of visitor i that leads from one crowd to another, and reports an error if it asks for the lock and does not get it although it is free, or gets it although it is not.
func (l *tally) count(t *testing.T, c, d crowd, i int) {
	t.Helper()
	if c.all[i].holds {
		return
	}
	_, n := c.holder()
	got := d.all[i].holds
	if got == (n > 0) {
		t.Errorf("%d visitors hold the lock, and visitor %d gets it: %t: %s", n, i, got, c.key())
	}
	switch {
	case got:
		l.got++
	case d.all[i].x != nil:
		l.waited++
	default:
		l.busy++
	}
}

// orders plays all orders of the steps of a crowd. What was seen is not played again. It returns at how many ends all visitors are through.
func (c crowd) orders(t *testing.T, l *tally, seen map[string]bool) (ends int) {
	t.Helper()
	key := c.key()
	if seen[key] {
		return 0
	}
	seen[key] = true
	c.check(t)
	left := false
	for i, v := range c.all {
		if v.over() {
			continue
		}
		left = true
		d := c.step(i)
		l.count(t, c, d, i)
		ends += d.orders(t, l, seen)
	}
	if !left {
		ends++
	}
	return ends
}

// The consequence of P15.1 to P15.3: all orders of the steps of visitors, some of which have the same owner. All of them come to an end, at which the lock is free.
func TestAllOrders(t *testing.T) {
	for _, c := range []crowd{
		meet([]int{0}, "ata"),
		meet([]int{0, 1}, "aa"),
		meet([]int{0, 1}, "aaa", "ttt"),
		meet([]int{0, 1}, "atat"),
		meet([]int{63, 0, 1}, "at", "ta"),
		meet([]int{0, 1, 2}, "aa", "aa", "tt"),
		meet([]int{math.MaxInt, math.MinInt, -2}, "at", "ta", "aa"),
		meet([]int{5, 5, 5}, "a", "t", "at"),
		meet([]int{0, 1, 2, 3}, "a", "t", "a", "a"),
	} {
		var l tally
		what := c.key()
		ends := c.orders(t, &l, map[string]bool{})
		if ends != 1 {
			t.Errorf("%d different ends, want 1: %s", ends, what)
		}
		if one := len(c.all) == 1; l.got == 0 || l.waited+l.busy == 0 != one {
			t.Errorf("the lock was got in %d steps, awaited in %d and found held in %d, so that this tests nothing: %s", l.got, l.waited, l.busy, what)
		}
	}
}

// The consequence of P15.1 to P15.3: many orders of the steps of as many visitors as there are workers and clients.
func TestManyOrders(t *testing.T) {
	var l tally
	for seed := range 40 {
		some := steptest.Mixed(uint64(seed))
		var owners []int
		var asks []string
		for i := range 2 + some(16) {
			owners = append(owners, i)
			asks = append(asks, strings.Repeat([]string{"a", "t", "at", "aat"}[some(4)], 1+some(5)))
		}
		c := meet(owners, asks...)
		for slices.ContainsFunc(c.all, func(v visitor) bool { return !v.over() }) {
			i := some(len(c.all))
			// Some visitors go on for a while, and others wait for long.
			for n := 1 + some(4); n > 0 && !c.all[i].over(); n-- {
				d := c.step(i)
				l.count(t, c, d, i)
				d.check(t)
				c = d
			}
			if t.Failed() {
				return
			}
		}
		if g := c.e.Memory.Peek(cell); g != 0 {
			t.Errorf("seed %d: the lock contains %d at the end", seed, g)
		}
	}
	if l.got == 0 || l.waited == 0 || l.busy == 0 {
		t.Errorf("the lock was got in %d steps, awaited in %d and found held in %d, so that this tests nothing", l.got, l.waited, l.busy)
	}
}
