package history

import (
	"math"
	"slices"

	"worksteal/api"
)

// Linear reports whether operations are linearizable.
func Linear(ops []api.Op, capacity int) bool {
	if len(ops) > api.MaxOps {
		return false
	}
	for _, o := range ops {
		if !wellFormed(o) {
			return false
		}
	}
	s := search{ops: renamed(ops), capacity: capacity, seen: map[state]bool{}}
	return s.completes(state{}, len(ops))
}

// wellFormed reports whether an operation is well-formed.
func wellFormed(o api.Op) bool {
	if o.From < 0 || o.From > o.To || o.Machine < 0 {
		return false
	}
	switch o.Kind {
	case api.OpPush:
		return o.Code == api.Fine || o.Code == api.Full
	case api.OpPop:
		return o.Code == api.Got || o.Code == api.Empty
	case api.OpSteal:
		return o.Code == api.Got || o.Code == api.Empty || o.Code == api.Abort
	}
	return false
}

// renamed returns operations with other values, equal ones for equal ones: from 1 on if they are taken, and 0 if nobody takes them. So the orders of pushes that nobody can tell apart lead to the same states; all orders of MaxOps values would be too many to look at.
func renamed(ops []api.Op) []api.Op {
	names := map[int]int{}
	for _, o := range ops {
		if _, ok := names[o.Value]; !ok && o.Code == api.Got {
			names[o.Value] = len(names) + 1
		}
	}
	l := slices.Clone(ops)
	for i := range l {
		l[i].Value = names[l[i].Value]
	}
	return l
}

// search is a search for an order of operations. What is seen are the states that it has been in.
type search struct {
	ops      []api.Op
	capacity int
	seen     map[state]bool
}

// state is which operations have been performed, and the list behind them.
type state struct {
	done [api.MaxOps]bool
	list list
}

// completes reports whether the operations that have not been performed, of which there is a number left, can be put in an order. It is false for a state that was seen before: if it led to an order, the search would be over.
func (s *search) completes(from state, left int) bool {
	if left == 0 {
		return true
	}
	if s.seen[from] {
		return false
	}
	s.seen[from] = true
	end := s.firstEnd(from)
	for i, o := range s.ops {
		if from.done[i] || o.From > end {
			continue
		}
		if l, ok := from.list.after(o, s.capacity); ok {
			to := state{done: from.done, list: l}
			to.done[i] = true
			if s.completes(to, left-1) {
				return true
			}
		}
	}
	return false
}

// firstEnd returns the least To of the operations that have not been performed. Those that begin later cannot be the next one, and no others have to wait.
func (s *search) firstEnd(from state) int {
	end := math.MaxInt
	for i, o := range s.ops {
		if !from.done[i] {
			end = min(end, o.To)
		}
	}
	return end
}

// list is a list of values. The places behind its size are 0, so that equal lists are equal as structs.
type list struct {
	size   int
	values [api.MaxOps]int
}

// after returns the list behind an operation, and whether the operation can have its result. It has room for each push of at most MaxOps operations.
func (l list) after(o api.Op, capacity int) (list, bool) {
	switch o.Code {
	case api.Fine:
		return l.pushed(o.Value), l.size < capacity
	case api.Full:
		return l, l.size >= capacity
	case api.Empty:
		return l, l.size == 0
	case api.Abort:
		return l, true
	}
	if l.size == 0 {
		return l, false
	}
	if o.Kind == api.OpPop {
		return l.popped(), l.values[l.size-1] == o.Value
	}
	return l.stolen(), l.values[0] == o.Value
}

// pushed returns the list with one more value.
func (l list) pushed(v int) list {
	l.values[l.size] = v
	l.size++
	return l
}

// popped returns the list without its last value.
func (l list) popped() list {
	l.size--
	l.values[l.size] = 0
	return l
}

// stolen returns the list without its first value.
func (l list) stolen() list {
	copy(l.values[:], l.values[1:l.size])
	return l.popped()
}
