package steptest

import (
	"slices"

	"worksteal/api"
)

// Sized returns a valid configuration with some workers, levels and tasks, whose deques have some places.
func Sized(workers, levels, tasks, places int) api.Config {
	return api.Config{Workers: workers, Levels: levels, Classes: 1, Tasks: tasks, Deque: places, Heap: 1, Batch: 1, Patience: 1, Progs: [][]api.Instr{{}}}
}

// BitsOf returns the cell of the bitmap of a worker, as chapter 6 counts the cells: behind four cells, the injector, the sleepers and the epochs. Tests count for themselves, so that they do not take the word of package layout for it.
func BitsOf(c api.Config, worker int) int { return 4 + c.Heap + c.Classes + c.Workers + worker }

// DequeOf returns the deque of a worker and a level, as chapter 6 counts the cells: behind the bitmaps.
func DequeOf(c api.Config, worker, level int) api.Queue {
	first := BitsOf(c, c.Workers) + (worker*c.Levels+level)*(2+c.Deque)
	return api.Queue{Top: first, Bottom: first + 1, Ring: first + 2, Cap: c.Deque}
}

// Row is the cells of a task.
type Row struct{ State, Level, Join, Waits, Since int }

// RowOf returns the cells of a task, as chapter 6 counts the cells: behind the deques.
func RowOf(c api.Config, task int) Row {
	first := DequeOf(c, c.Workers, 0).Top + 5*task
	return Row{first, first + 1, first + 2, first + 3, first + 4}
}

// CellOf returns the cell of an index of a deque that has places.
func CellOf(q api.Queue, index uint64) int { return q.Ring + int(index%uint64(q.Cap)) }

// Is returns the put of a word into a cell.
func Is(cell int, v uint64) []Put { return []Put{{cell, v}} }

// Has returns the puts that let a deque have entries, whose indices begin with a number.
func Has(q api.Queue, begin uint64, entries ...uint64) []Put {
	l := []Put{{q.Top, begin}, {q.Bottom, begin + uint64(len(entries))}}
	for i, v := range entries {
		l = append(l, Put{CellOf(q, begin+uint64(i)), v})
	}
	return l
}

// Filled returns the puts that let every cell of a task contain a number of its own.
func (r Row) Filled(first uint64) []Put {
	return []Put{{r.State, first}, {r.Level, first + 1}, {r.Join, first + 2}, {r.Waits, first + 3}, {r.Since, first + 4}}
}

// Beside returns the puts that let the cells of all tasks but some contain numbers.
func Beside(c api.Config, tasks ...int) []Put {
	var l []Put
	for i := range c.Tasks {
		if !slices.Contains(tasks, i) {
			l = append(l, RowOf(c, i).Filled(1)...)
		}
	}
	return l
}

// Looks returns the steps of a push or a pop that finds a deque full or empty.
func Looks(q api.Queue, b, t uint64) []Step { return []Step{Load(q.Bottom, b), Load(q.Top, t)} }

// Pushes returns the steps of a push of an entry into a place that contains old.
func Pushes(q api.Queue, b, t, old, entry uint64) []Step {
	return append(Looks(q, b, t), Store(CellOf(q, b), old, entry), Store(q.Bottom, b, b+1))
}

// Enters returns the steps of a push of an entry into a place of a deque of a worker that contains 0, behind which the bit of the level is set in a bitmap that contains old.
func Enters(c api.Config, worker, level int, b, t, entry, old uint64) []Step {
	return append(Pushes(DequeOf(c, worker, level), b, t, 0, entry), Or(BitsOf(c, worker), old, old|1<<level))
}
