package words_test

import (
	"math"
	"slices"
	"testing"

	"worksteal/api"
	"worksteal/words"
)

// samples returns words of many shapes: none, one, two and all bits, runs of bits, and mixed ones.
func samples() []uint64 {
	l := []uint64{0, math.MaxUint64, 44, 0x5555555555555555, 0xaaaaaaaaaaaaaaaa}
	mixed := uint64(1)
	for i := range 64 {
		mixed = mixed*6364136223846793005 + 1442695040888963407
		l = append(l, 1<<i, ^(uint64(1) << i), 1<<i-1, math.MaxUint64<<i, 1<<i|1<<(63-i), mixed)
	}
	return l
}

// ones returns the numbers of the bits of x that are 1, in ascending order, by halving x.
func ones(x uint64) []int {
	var l []int
	for i := 0; x != 0; i++ {
		if x%2 == 1 {
			l = append(l, i)
		}
		x /= 2
	}
	return l
}

// P1.1, with the words that have no bit, the least, the greatest, and all bits.
func TestHighLowCount(t *testing.T) {
	for _, c := range []struct {
		x                uint64
		high, low, count int
	}{
		{0, -1, -1, 0},
		{1, 0, 0, 1},
		{2, 1, 1, 1},
		{44, 5, 2, 3},
		{1 << 63, 63, 63, 1},
		{1<<63 | 1, 63, 0, 2},
		{1<<32 | 1<<31, 32, 31, 2},
		{math.MaxUint64, 63, 0, 64},
		{math.MaxUint64 - 1, 63, 1, 63},
		{math.MaxUint64 >> 1, 62, 0, 63},
	} {
		if g := words.High(c.x); g != c.high {
			t.Errorf("High(%#x) = %d, want %d", c.x, g, c.high)
		}
		if g := words.Low(c.x); g != c.low {
			t.Errorf("Low(%#x) = %d, want %d", c.x, g, c.low)
		}
		if g := words.Count(c.x); g != c.count {
			t.Errorf("Count(%#x) = %d, want %d", c.x, g, c.count)
		}
	}
}

// P1.1 for words of many shapes, against their bits as halving finds them.
func TestBitsOfSamples(t *testing.T) {
	for _, x := range samples() {
		l := ones(x)
		high, low := -1, -1
		if len(l) > 0 {
			high, low = slices.Max(l), slices.Min(l)
		}
		if g := words.High(x); g != high {
			t.Errorf("High(%#x) = %d, want %d", x, g, high)
		}
		if g := words.Low(x); g != low {
			t.Errorf("Low(%#x) = %d, want %d", x, g, low)
		}
		if g := words.Count(x); g != len(l) {
			t.Errorf("Count(%#x) = %d, want %d", x, g, len(l))
		}
		for n := -2; n < 67; n++ {
			want := -1
			if n >= 0 && n < len(l) {
				want = l[n]
			}
			if g := words.Nth(x, n); g != want {
				t.Errorf("Nth(%#x, %d) = %d, want %d", x, n, g, want)
			}
		}
	}
}

// P1.1 for Nth, with an n that is negative or too great.
func TestNth(t *testing.T) {
	for _, c := range []struct {
		x       uint64
		n, want int
	}{
		{44, 0, 2},
		{44, 1, 3},
		{44, 2, 5},
		{44, 3, -1},
		{44, -1, -1},
		{44, math.MinInt, -1},
		{44, math.MaxInt, -1},
		{0, 0, -1},
		{0, -1, -1},
		{1, 0, 0},
		{1 << 63, 0, 63},
		{1 << 63, 1, -1},
		{math.MaxUint64, 0, 0},
		{math.MaxUint64, 63, 63},
		{math.MaxUint64, 64, -1},
		{math.MaxUint64, -1, -1},
		{math.MaxUint64, math.MinInt, -1},
		{math.MaxUint64, math.MaxInt, -1},
	} {
		if g := words.Nth(c.x, c.n); g != c.want {
			t.Errorf("Nth(%#x, %d) = %d, want %d", c.x, c.n, g, c.want)
		}
	}
}

// P1.2, with ranges that reach below 0 or above 63, and empty ones.
func TestSpan(t *testing.T) {
	for _, c := range []struct {
		low, high int
		want      uint64
	}{
		{2, 5, 28},
		{0, 1, 1},
		{0, 63, math.MaxUint64 >> 1},
		{0, 64, math.MaxUint64},
		{1, 64, math.MaxUint64 - 1},
		{63, 64, 1 << 63},
		{0, 65, math.MaxUint64},
		{63, 65, 1 << 63},
		{64, 65, 0},
		{-1, 0, 0},
		{-1, 1, 1},
		{-9, -2, 0},
		{-9, 99, math.MaxUint64},
		{0, 0, 0},
		{5, 5, 0},
		{6, 5, 0},
		{64, 0, 0},
		{64, 64, 0},
		{99, -9, 0},
		{math.MinInt, math.MaxInt, math.MaxUint64},
		{math.MaxInt, math.MinInt, 0},
		{math.MinInt, math.MinInt, 0},
		{math.MaxInt, math.MaxInt, 0},
		{math.MinInt, 3, 7},
		{61, math.MaxInt, 7 << 61},
	} {
		if g := words.Span(c.low, c.high); g != c.want {
			t.Errorf("Span(%d, %d) = %#x, want %#x", c.low, c.high, g, c.want)
		}
	}
}

// P1.2 for all ranges around the word, bit by bit.
func TestSpanBits(t *testing.T) {
	for low := -3; low < 68; low++ {
		for high := -3; high < 68; high++ {
			want := uint64(0)
			for i := range 64 {
				if low <= i && i < high {
					want += 1 << i
				}
			}
			if g := words.Span(low, high); g != want {
				t.Errorf("Span(%d, %d) = %#x, want %#x", low, high, g, want)
			}
		}
	}
}

// P1.3, with levels, numbers of levels and numbers of classes at their limits and outside them.
func TestClass(t *testing.T) {
	for _, c := range []struct{ level, levels, classes, want int }{
		{5, 8, 4, 2},
		{0, 8, 4, 0},
		{1, 8, 4, 0},
		{2, 8, 4, 1},
		{7, 8, 4, 3},
		{1, 3, 2, 0},
		{2, 3, 2, 1},
		{2, 4, 3, 1},
		{0, 1, 1, 0},
		{0, 1, api.MaxClasses, 0},
		{1, 2, api.MaxClasses, 4},
		{2, 3, api.MaxClasses, 5},
		{63, api.MaxLevels, 1, 0},
		{63, api.MaxLevels, api.MaxClasses, 7},
		{55, api.MaxLevels, api.MaxClasses, 6},
		{56, api.MaxLevels, api.MaxClasses, 7},

		{-1, 8, 4, 0},
		{-1, 4, 8, 0},
		{-1, 1, 1, 0},
		{-5, 8, 4, 0},
		{8, 8, 4, 0},
		{9, 8, 4, 0},
		{math.MaxInt, 8, 4, 0},
		{math.MinInt, 8, 4, 0},
		{0, 0, 4, 0},
		{-2, -1, 4, 0},
		{64, api.MaxLevels, api.MaxClasses, 0},
		{63, api.MaxLevels + 1, api.MaxClasses, 0},
		{math.MaxInt - 1, math.MaxInt, 1, 0},
		{7, 8, 0, 0},
		{7, 8, -4, 0},
		{7, 8, api.MaxClasses + 1, 0},
		{7, 8, math.MaxInt, 0},
		{7, 8, math.MinInt, 0},
	} {
		if g := words.Class(c.level, c.levels, c.classes); g != c.want {
			t.Errorf("Class(%d, %d, %d) = %d, want %d", c.level, c.levels, c.classes, g, c.want)
		}
	}
}

// P1.3 for all numbers in their limits: the class is the greatest k with k * levels at most level * classes.
func TestClassRoundsDown(t *testing.T) {
	for levels := 1; levels <= api.MaxLevels; levels++ {
		for classes := 1; classes <= api.MaxClasses; classes++ {
			for level := range levels {
				g := words.Class(level, levels, classes)
				if g < 0 || g >= classes || g*levels > level*classes || (g+1)*levels <= level*classes {
					t.Errorf("Class(%d, %d, %d) = %d", level, levels, classes, g)
				}
			}
		}
	}
}

// P1.4 for Pack, with the least and the greatest numbers of a key and those just outside.
func TestPack(t *testing.T) {
	for _, c := range []struct {
		deadline, arrival, task int
		want                    uint64
		ok                      bool
	}{
		{1, 2, 3, 1<<40 + 2<<16 + 3, true},
		{0, 0, 0, 0, true},
		{1, 0, 0, 1 << 40, true},
		{0, 1, 0, 1 << 16, true},
		{0, 0, 1, 1, true},
		{api.MaxDeadline, 0, 0, 0xffffff << 40, true},
		{0, api.MaxArrival, 0, 0xffffff << 16, true},
		{0, 0, 65535, 65535, true},
		{api.MaxDeadline, api.MaxArrival, 65535, math.MaxUint64, true},

		{-1, 2, 3, 0, false},
		{api.MaxDeadline + 1, 2, 3, 0, false},
		{1, -1, 3, 0, false},
		{1, api.MaxArrival + 1, 3, 0, false},
		{1, 2, -1, 0, false},
		{1, 2, 65536, 0, false},
		{math.MinInt, 2, 3, 0, false},
		{math.MaxInt, 2, 3, 0, false},
		{1, math.MinInt, 3, 0, false},
		{1, math.MaxInt, 3, 0, false},
		{1, 2, math.MinInt, 0, false},
		{1, 2, math.MaxInt, 0, false},
		{-1, -1, -1, 0, false},
	} {
		k, ok := words.Pack(c.deadline, c.arrival, c.task)
		if k != c.want || ok != c.ok {
			t.Errorf("Pack(%d, %d, %d) = %#x %v, want %#x %v", c.deadline, c.arrival, c.task, k, ok, c.want, c.ok)
		}
	}
}

// P1.4 for Unpack, which takes any word.
func TestUnpack(t *testing.T) {
	for _, c := range []struct {
		k                       uint64
		deadline, arrival, task int
	}{
		{1<<40 + 2<<16 + 3, 1, 2, 3},
		{0, 0, 0, 0},
		{1 << 15, 0, 0, 1 << 15},
		{1 << 16, 0, 1, 0},
		{1 << 39, 0, 1 << 23, 0},
		{1 << 40, 1, 0, 0},
		{1 << 63, 1 << 23, 0, 0},
		{0xffffff << 40, api.MaxDeadline, 0, 0},
		{0xffffff << 16, 0, api.MaxArrival, 0},
		{0xffff, 0, 0, 65535},
		{0x123456789abcdef0, 0x123456, 0x789abc, 0xdef0},
		{math.MaxUint64, api.MaxDeadline, api.MaxArrival, 65535},
	} {
		d, a, n := words.Unpack(c.k)
		if d != c.deadline || a != c.arrival || n != c.task {
			t.Errorf("Unpack(%#x) = %d %d %d, want %d %d %d", c.k, d, a, n, c.deadline, c.arrival, c.task)
		}
	}
}

// keyNumbers returns triples of numbers of a key in the order of deadlines, arrival numbers and tasks.
func keyNumbers() [][3]int {
	var l [][3]int
	for _, d := range []int{0, 1, 255, 1 << 16, api.MaxDeadline} {
		for _, a := range []int{0, 1, 255, 1 << 16, api.MaxArrival} {
			for _, n := range []int{0, 1, 255, 65535} {
				l = append(l, [3]int{d, a, n})
			}
		}
	}
	return l
}

// The consequences of P1.4: keys are ordered as their numbers are, and Unpack returns what was packed.
func TestKeysAreOrdered(t *testing.T) {
	last := uint64(0)
	for i, x := range keyNumbers() {
		k, ok := words.Pack(x[0], x[1], x[2])
		if !ok {
			t.Fatalf("Pack(%v) has no key", x)
		}
		if i > 0 && k <= last {
			t.Errorf("Pack(%v) = %#x is not greater than the key before it, %#x", x, k, last)
		}
		last = k
		if d, a, n := words.Unpack(k); [3]int{d, a, n} != x {
			t.Errorf("Unpack(Pack(%v)) = %d %d %d", x, d, a, n)
		}
	}
}

// The other direction: a word is the key of what Unpack returns for it.
func TestPackOfUnpacked(t *testing.T) {
	for _, x := range samples() {
		d, a, n := words.Unpack(x)
		if k, ok := words.Pack(d, a, n); k != x || !ok {
			t.Errorf("Pack(Unpack(%#x)) = %#x %v", x, k, ok)
		}
	}
}
