// Package parts contains what step machines of several layers embed: Lines is what all of them share, Deque what those on a deque share, and Outer what those share that run other machines. IsTask is what those ask that act on a task. See shared/doc/08-machine.md, shared/doc/09-owner.md and shared/doc/18-table.md under 'Definitions'.
package parts

import (
	"worksteal/api"
	"worksteal/machine"
)

// over is the line of a machine that is done: the chapters number the lines from 1 on.
const over = 0

// Lines is the next line of a machine, and its result. The zero value is done with 0 and 0.
type Lines struct{ line, code, value int }

// Begin returns the lines of a machine that is at its first one.
func Begin() Lines { return Lines{line: 1} }

// Line returns the next line; no line has this number if the machine is done.
func (l *Lines) Line() int { return l.line }

// Next lets a line be the next one, and returns that the machine is not done.
func (l *Lines) Next(line int) bool {
	l.line = line
	return false
}

// End lets the machine be done with a result, and returns that it is.
func (l *Lines) End(code, value int) bool {
	l.line, l.code, l.value = over, code, value
	return true
}

// Result returns the code and the value; both are 0 before the machine is done.
func (l *Lines) Result() (code, value int) { return l.code, l.value }

// Deque is the lines of a machine on a deque, the cells of the deque, and what was loaded from Bottom and Top, which the chapters call b and t.
type Deque struct {
	Lines
	api.Queue
	B, T uint64
}

// On returns the lines of a machine on the deque of q that is at its first one.
func On(q api.Queue) Deque { return Deque{Lines: Begin(), Queue: q} }

// LoadBottom loads the contents of Bottom.
func (d *Deque) LoadBottom(e *machine.Env) { d.B = e.Memory.Load(d.Bottom) }

// LoadTop loads the contents of Top.
func (d *Deque) LoadTop(e *machine.Env) { d.T = e.Memory.Load(d.Top) }

// Size returns the size for contents b of Bottom and the loaded ones of Top. The conversion wraps, so that it is negative where Top is ahead.
func (d *Deque) Size(b uint64) int { return int(b - d.T) }

// CellOf returns the cell of an index. Where a ring ends beyond the greatest int, the sum wraps to a negative number, which is no cell either.
func (d *Deque) CellOf(index uint64) int {
	if d.Cap < 1 {
		return -1
	}
	return d.Ring + int(index%uint64(d.Cap))
}

// Outer is the lines of a machine that runs other machines, and the one that the next line runs, which is nil before the first step of this line.
type Outer struct {
	Lines
	inner machine.Machine
}

// Around returns the lines of a machine that runs others and is at its first one.
func Around() Outer { return Outer{Lines: Begin()} }

// Begins reports whether the next step of a line that runs a machine is the first one of this line.
func (o *Outer) Begins() bool { return o.inner == nil }

// Run performs a step of the machine that a line runs, and returns its result and true if it is done. The first step of the line begins with it: the cells that it acts on are those of the environment of this step.
func (o *Outer) Run(e *machine.Env, begin func() machine.Machine) (code, value int, done bool) {
	if o.inner == nil {
		o.inner = begin()
	}
	if !o.inner.Step(e) {
		return 0, 0, false
	}
	code, value = o.inner.Result()
	o.inner = nil
	return code, value, true
}

// Detach lets the inner machine be a copy of what it was. The copy of an outer machine as a value shares it with the original before that.
func (o *Outer) Detach() {
	if o.inner != nil {
		o.inner = o.inner.Copy()
	}
}

// IsTask reports whether a number is a task.
func IsTask(e *machine.Env, n int) bool { return 0 <= n && n < e.Config.Tasks }
