package clock_test

import (
	"fmt"
	"math"
	"math/big"
	"testing"

	"worksteal/clock"
)

// check reports an error if the time or the current draw of a clock is not the wanted one. A clock tells its draw only through Draw; the two greatest n are neighbours and so have no common factor but 1, which is why no two draws have the same remainders for both.
func check(t *testing.T, what string, c *clock.Clock, now, draw int) {
	t.Helper()
	if g := c.Now(); g != now {
		t.Errorf("%s: Now() = %d, want %d", what, g, now)
	}
	for _, n := range []int{math.MaxInt, math.MaxInt - 1, 10} {
		if g, w := c.Draw(n), remainder(draw, n); g != w {
			t.Errorf("%s: Draw(%d) = %d, want %d, as the current draw is %d", what, n, g, w, draw)
		}
	}
}

// remainder returns what P3.2 says for Draw(n), with numbers of any size: Mod of package big is never negative.
func remainder(draw, n int) int {
	if n < 1 {
		return 0
	}
	return int(new(big.Int).Mod(big.NewInt(int64(draw)), big.NewInt(int64(n))).Int64())
}

// set returns a new clock with a current draw.
func set(draw int) *clock.Clock {
	c := clock.New()
	c.Set(draw)
	return c
}

// numbers returns numbers at the limits, around 0, and around multiples of one another.
func numbers() []int {
	return []int{
		math.MinInt, math.MinInt + 1, math.MinInt + 2, math.MinInt32 - 1, math.MinInt32, -65537, -65536, -101, -100, -99,
		-12, -9, -8, -7, -6, -5, -4, -3, -2, -1, 0, 1, 2, 3, 4, 5, 6, 7, 8, 9, 12,
		99, 100, 101, 65535, 65536, 65537, math.MaxInt32, math.MaxInt32 + 1, 1 << 62, math.MaxInt - 2, math.MaxInt - 1, math.MaxInt,
	}
}

// mixed returns a function whose calls return numbers that look random; the same seed gives the same ones.
func mixed(seed uint64) func() int {
	return func() int {
		seed = seed*6364136223846793005 + 1442695040888963407
		return int(seed ^ seed>>29)
	}
}

// P3.1: a new clock before anything was done with it has the time 0 and the current draw 0.
func TestNew(t *testing.T) {
	if g := clock.New().Now(); g != 0 {
		t.Errorf("Now() of a new clock = %d, want 0", g)
	}
	for _, n := range numbers() {
		if g := clock.New().Draw(n); g != 0 {
			t.Errorf("Draw(%d) of a new clock = %d, want 0", n, g)
		}
	}
	check(t, "a new clock", clock.New(), 0, 0)
	check(t, "a copy of a new clock", clock.New().Copy(), 0, 0)
}

// P3.1: what is done with one clock is not seen in another one, whichever was made first.
func TestNewIsFresh(t *testing.T) {
	a, b := clock.New(), clock.New()
	a.Tick()
	a.Set(5)
	check(t, "the clock that was changed", a, 1, 5)
	check(t, "a clock made before", b, 0, 0)
	check(t, "a clock made afterwards", clock.New(), 0, 0)
}

// P3.1: each Tick adds 1 to the time, and Now only tells it; many ticks, more than fit into 16 bits.
func TestTick(t *testing.T) {
	c := set(7)
	for i := range 200000 {
		if g := c.Now(); g != i {
			t.Fatalf("after %d ticks: Now() = %d", i, g)
		}
		c.Tick()
	}
	check(t, "after many ticks", c, 200000, 7)
	check(t, "the same, asked again", c, 200000, 7)
}

// P3.1: Set replaces the current draw, whatever it was before, and leaves the time.
func TestSetReplaces(t *testing.T) {
	c := clock.New()
	c.Tick()
	for _, a := range numbers() {
		for _, b := range numbers() {
			c.Set(a)
			c.Set(b)
			check(t, fmt.Sprintf("Set(%d) and then Set(%d)", a, b), c, 1, b)
		}
	}
}

// P3.2, with each kind of n and of draw written out.
func TestDraw(t *testing.T) {
	for _, c := range []struct{ draw, n, want int }{
		// n is less than 1
		{7, 0, 0},
		{7, -1, 0},
		{7, -3, 0},
		{7, math.MinInt, 0},
		{-7, 0, 0},
		{-7, -1, 0},
		{-7, -3, 0},
		{-7, math.MinInt, 0},
		{math.MinInt, 0, 0},
		{math.MinInt, -1, 0},
		{math.MaxInt, -1, 0},
		{math.MinInt, math.MinInt, 0},
		{math.MaxInt, math.MinInt, 0},
		// n is 1
		{0, 1, 0},
		{7, 1, 0},
		{-7, 1, 0},
		{math.MaxInt, 1, 0},
		{math.MinInt, 1, 0},
		// the draw is 0, or a multiple of n
		{0, 4, 0},
		{0, math.MaxInt, 0},
		{4, 4, 0},
		{8, 4, 0},
		{12, 4, 0},
		{-4, 4, 0},
		{-8, 4, 0},
		{-12, 4, 0},
		// the draw is positive
		{7, 4, 3},
		{7, 2, 1},
		{7, 5, 2},
		{5, 4, 1},
		{1, 2, 1},
		{1000003, 10, 3},
		// the draw is negative
		{-1, 2, 1},
		{-1, 4, 3},
		{-1, 7, 6},
		{-2, 4, 2},
		{-3, 4, 1},
		{-5, 4, 3},
		{-7, 4, 1},
		{-1000003, 10, 7},
		// n is greater than the draw
		{7, 8, 7},
		{7, 100, 7},
		{-7, 8, 1},
		{-7, 100, 93},
		{1, math.MaxInt, 1},
		{7, math.MaxInt, 7},
		{-1, math.MaxInt, math.MaxInt - 1},
		{-7, math.MaxInt, math.MaxInt - 7},
		{math.MaxInt - 1, math.MaxInt, math.MaxInt - 1},
		{1 - math.MaxInt, math.MaxInt, 1},
		{-math.MaxInt, math.MaxInt, 0},
		// the least and the greatest int
		{math.MaxInt, 2, 1},
		{math.MaxInt, 4, 3},
		{math.MaxInt, 10, 7},
		{math.MaxInt, math.MaxInt - 1, 1},
		{math.MaxInt, math.MaxInt, 0},
		{math.MinInt, 2, 0},
		{math.MinInt, 3, 1},
		{math.MinInt, 4, 0},
		{math.MinInt, 10, 2},
		{math.MinInt, math.MaxInt - 1, math.MaxInt - 3},
		{math.MinInt, math.MaxInt, math.MaxInt - 1},
	} {
		if g := set(c.draw).Draw(c.n); g != c.want {
			t.Errorf("Draw(%d) after Set(%d) = %d, want %d", c.n, c.draw, g, c.want)
		}
	}
}

// P3.2, as it is worded, for all pairs of the numbers at the limits, and for small and mixed ones.
func TestDrawDiffersByMultiple(t *testing.T) {
	next := mixed(3)
	draws, ns := numbers(), numbers()
	for i := -20; i <= 20; i++ {
		draws, ns = append(draws, i, next()), append(ns, i, next())
	}
	for _, draw := range draws {
		c := set(draw)
		for _, n := range ns {
			g := c.Draw(n)
			if n < 1 {
				if g != 0 {
					t.Errorf("Draw(%d) after Set(%d) = %d, want 0", n, draw, g)
				}
				continue
			}
			if g < 0 || g >= n {
				t.Errorf("Draw(%d) after Set(%d) = %d is not in its range", n, draw, g)
			}
			gap := new(big.Int).Sub(big.NewInt(int64(draw)), big.NewInt(int64(g)))
			if gap.Rem(gap, big.NewInt(int64(n))).Sign() != 0 {
				t.Errorf("Draw(%d) after Set(%d) = %d does not differ by a multiple", n, draw, g)
			}
		}
	}
}

// P3.2: several Draws in a row, with different n, leave the current draw and the time as they were.
func TestDrawLeavesDraw(t *testing.T) {
	for _, draw := range numbers() {
		c := set(draw)
		c.Tick()
		for range 2 {
			for _, n := range numbers() {
				if g, w := c.Draw(n), remainder(draw, n); g != w {
					t.Errorf("Draw(%d) after Set(%d) and other Draws = %d, want %d", n, draw, g, w)
				}
			}
		}
		check(t, fmt.Sprintf("Draws after Set(%d)", draw), c, 1, draw)
	}
}

// P3.1 and P3.2: ticks between draws change no draw, draws no time; Set again counts from then on.
func TestTicksBetweenDraws(t *testing.T) {
	c := clock.New()
	now := 0
	for _, draw := range []int{7, -1, 0, 12, math.MinInt, math.MaxInt, -1} {
		c.Set(draw)
		check(t, fmt.Sprintf("Set(%d)", draw), c, now, draw)
		for range 5 {
			c.Tick()
			now++
			check(t, fmt.Sprintf("a tick after Set(%d)", draw), c, now, draw)
		}
	}
}

// P3.1 for Copy: the copy has the same time and draw; then the original, the copy and a copy of the copy go on apart.
func TestCopy(t *testing.T) {
	c := set(-8)
	c.Tick()
	c.Tick()
	x := c.Copy()
	y := x.Copy()
	check(t, "the copy", x, 2, -8)
	check(t, "the copy of the copy", y, 2, -8)

	c.Tick()
	c.Set(5)
	check(t, "the original went on", c, 3, 5)
	check(t, "its copy", x, 2, -8)
	check(t, "the copy of its copy", y, 2, -8)

	x.Tick()
	x.Tick()
	x.Tick()
	x.Set(1)
	check(t, "the copy went on", x, 5, 1)
	check(t, "its original", c, 3, 5)
	check(t, "its copy", y, 2, -8)

	y.Set(9)
	check(t, "the copy of the copy went on", y, 2, 9)
	check(t, "its original", x, 5, 1)
	check(t, "the first original", c, 3, 5)
}

// P3.1: only one of time and draw goes on, in the copy or in the original, and the other clock keeps both.
func TestCopyOneField(t *testing.T) {
	for _, c := range []struct {
		what      string
		change    func(*clock.Clock)
		now, draw int
	}{
		{"Tick", (*clock.Clock).Tick, 2, 7},
		{"Set", func(c *clock.Clock) { c.Set(-3) }, 1, -3},
	} {
		a := set(7)
		a.Tick()
		b := a.Copy()
		c.change(a)
		check(t, c.what+" of the original", a, c.now, c.draw)
		check(t, c.what+" of the original, seen in the copy", b, 1, 7)

		a = set(7)
		a.Tick()
		b = a.Copy()
		c.change(b)
		check(t, c.what+" of the copy", b, c.now, c.draw)
		check(t, c.what+" of the copy, seen in the original", a, 1, 7)
	}
}

// A model is what P3.1 says that a clock has.
type model struct{ now, draw int }

// step makes a call that next chooses on a clock, and changes the model as P3.1 says.
func step(c *clock.Clock, m *model, next func() int) string {
	l := numbers()
	pick := func() int {
		if i := next() & 127; i < len(l) {
			return l[i]
		}
		return next()
	}
	switch next() & 3 {
	case 0:
		c.Tick()
		m.now++
		return "Tick"
	case 1:
		m.draw = pick()
		c.Set(m.draw)
		return fmt.Sprintf("Set(%d)", m.draw)
	}
	n := pick()
	c.Draw(n)
	return fmt.Sprintf("Draw(%d)", n)
}

// P3.1 and P3.2: several clocks, some of them copies of others, with long mixed lists of calls.
func TestMixedCalls(t *testing.T) {
	next := mixed(17)
	clocks := []*clock.Clock{clock.New(), clock.New(), clock.New(), clock.New()}
	models := make([]model, len(clocks))
	for range 5000 {
		i, j := next()&3, next()&3
		what := step(clocks[i], &models[i], next)
		if next()&15 == 0 {
			what += fmt.Sprintf(", and clock %d became a copy of clock %d", j, i)
			clocks[j], models[j] = clocks[i].Copy(), models[i]
		}
		for k, c := range clocks {
			check(t, fmt.Sprintf("%s of clock %d, seen in clock %d", what, i, k), c, models[k].now, models[k].draw)
		}
		if t.Failed() {
			return
		}
	}
}

// The chapter's examples.
func TestExamples(t *testing.T) {
	c := clock.New()
	c.Set(7)
	for range 2 {
		if g := c.Draw(4); g != 3 {
			t.Errorf("example 1: Draw(4) = %d, want 3", g)
		}
	}
	c.Set(-1)
	if g := c.Draw(4); g != 3 {
		t.Errorf("example 2: Draw(4) = %d, want 3", g)
	}
}
