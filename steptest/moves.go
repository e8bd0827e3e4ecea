package steptest

import (
	"slices"
	"strconv"
)

// CheckMoves lets the machines of ways perform each step in a copy of the environment of the step before. The cells of what they leave are changed; nothing else must happen there, and all of it must be nothing to them.
func CheckMoves(t T, ways ...Way) {
	t.Helper()
	for _, w := range ways {
		e, x := w.env(), w.Make()
		for i, s := range w.Steps {
			what := w.What + ", in a copy, step " + strconv.Itoa(i+1)
			f := e.Copy()
			for cell, v := range f.Memory.Cells() {
				e.Memory.Store(cell, ^v)
			}
			left := e.Copy()
			CheckStep(t, what, f, x, s, i == len(w.Steps)-1)
			if !slices.Equal(e.Memory.Cells(), left.Memory.Cells()) || e.Memory.Count() != left.Memory.Count() {
				t.Errorf("%s: the cells that the machine has left are %v, want %v", what, e.Memory.Cells(), left.Memory.Cells())
			}
			checkBeside(t, what+", what the machine has left", e, left)
			e = f
		}
		CheckResult(t, w.What+", in copies", x, w.Code, w.Value)
	}
}

// CheckPairs lets two machines of each way, which equal calls have made, perform their steps by turns, each in an environment of its own.
func CheckPairs(t T, ways ...Way) {
	t.Helper()
	for _, w := range ways {
		e, f, x, y := w.env(), w.env(), w.Make(), w.Make()
		for i, s := range w.Steps {
			what, done := w.What+", step "+strconv.Itoa(i+1), i == len(w.Steps)-1
			CheckStep(t, what+" of the first of two", e, x, s, done)
			CheckStep(t, what+" of the second of two", f, y, s, done)
		}
		CheckResult(t, w.What+", the first of two", x, w.Code, w.Value)
		CheckResult(t, w.What+", the second of two", y, w.Code, w.Value)
	}
}
