package script_test

import (
	"fmt"
	"math"
	"math/big"
	"slices"
	"testing"

	"worksteal/api"
	"worksteal/script"
)

func pick(v int) api.Entry { return api.Entry{Kind: api.Pick, Value: v} }

func tick() api.Entry { return api.Entry{Kind: api.Tick} }

func draw(v int) api.Entry { return api.Entry{Kind: api.Draw, Value: v} }

func idle() api.Entry { return api.Entry{Kind: api.Idle} }

// picks returns Picks of the values from the first one to the last one.
func picks(first, last int) []api.Entry {
	var l []api.Entry
	for v := first; v <= last; v++ {
		l = append(l, pick(v))
	}
	return l
}

// repeat returns a list n times, one behind the other.
func repeat(n int, l ...api.Entry) []api.Entry { return slices.Repeat(l, n) }

// modulo returns v modulo n, from 0 to n - 1, with numbers of any size: Mod of package big is never negative.
func modulo(v, n int) int {
	return int(new(big.Int).Mod(big.NewInt(int64(v)), big.NewInt(int64(n))).Int64())
}

// complete reports whether a list is complete as the chapter defines it, looking through the list for each machine.
func complete(l []api.Entry, machines int) bool {
	if !slices.ContainsFunc(l, func(e api.Entry) bool { return e.Kind == api.Tick }) {
		return false
	}
	for m := range machines {
		if !slices.ContainsFunc(l, func(e api.Entry) bool { return e.Kind == api.Pick && modulo(e.Value, machines) == m }) {
			return false
		}
	}
	return true
}

// plainRounds returns what P4.3 says for Rounds, trying all lengths of each complete list from the shortest one.
func plainRounds(l []api.Entry, machines int) int {
	n := 0
	for machines >= 1 {
		end := 0
		for end <= len(l) && !complete(l[:end], machines) {
			end++
		}
		if end > len(l) {
			break
		}
		n++
		l = l[end:]
	}
	return n
}

// plainFair returns what P4.4 says for Fair, trying every k consecutive entries.
func plainFair(l []api.Entry, machines, k int) bool {
	if k < 1 || machines < 1 {
		return false
	}
	for i := 0; k <= len(l) && i <= len(l)-k; i++ {
		if !complete(l[i:i+k], machines) {
			return false
		}
	}
	return true
}

// lists calls f with every list of at most n of the entries of an alphabet.
func lists(alphabet []api.Entry, n int, f func([]api.Entry)) {
	var extend func(l []api.Entry)
	extend = func(l []api.Entry) {
		f(l)
		if len(l) == n {
			return
		}
		for _, e := range alphabet {
			extend(append(slices.Clone(l), e))
		}
	}
	extend(nil)
}

// mixed returns a function whose calls return numbers from 0 to n - 1 that look random; the same seed gives the same ones.
func mixed(seed uint64) func(n int) int {
	return func(n int) int {
		seed = seed*6364136223846793005 + 1442695040888963407
		return int(seed >> 33 % uint64(n))
	}
}

// P4.1, with each kind of byte string written out.
func TestDecode(t *testing.T) {
	for _, c := range []struct {
		b    []byte
		want []api.Entry
	}{
		// no bytes, one byte, and other odd numbers of bytes
		{nil, nil},
		{[]byte{}, nil},
		{[]byte{0}, nil},
		{[]byte{1}, nil},
		{[]byte{255}, nil},
		{[]byte{0, 5, 1}, []api.Entry{pick(5)}},
		{[]byte{2, 5, 1, 0, 2}, []api.Entry{draw(5), tick()}},
		// each kind, with a value
		{[]byte{0, 7}, []api.Entry{pick(7)}},
		{[]byte{1, 7}, []api.Entry{tick()}},
		{[]byte{2, 7}, []api.Entry{draw(7)}},
		{[]byte{3, 7}, []api.Entry{idle()}},
		{[]byte{1, 0}, []api.Entry{tick()}},
		{[]byte{3, 0}, []api.Entry{idle()}},
		{[]byte{1, 255}, []api.Entry{tick()}},
		{[]byte{3, 255}, []api.Entry{idle()}},
		// the least and the greatest value
		{[]byte{0, 0}, []api.Entry{pick(0)}},
		{[]byte{0, 255}, []api.Entry{pick(255)}},
		{[]byte{2, 0}, []api.Entry{draw(0)}},
		{[]byte{2, 255}, []api.Entry{draw(255)}},
		{[]byte{0, 128}, []api.Entry{pick(128)}},
		// kinds of 4 and more
		{[]byte{4, 8}, []api.Entry{pick(8)}},
		{[]byte{5, 8}, []api.Entry{tick()}},
		{[]byte{6, 8}, []api.Entry{draw(8)}},
		{[]byte{7, 8}, []api.Entry{idle()}},
		{[]byte{128, 8, 129, 8, 130, 8, 131, 8}, []api.Entry{pick(8), tick(), draw(8), idle()}},
		{[]byte{252, 8, 253, 8, 254, 8, 255, 8}, []api.Entry{pick(8), tick(), draw(8), idle()}},
		// several
		{[]byte{0, 1, 0, 1, 3, 2, 2, 1, 1, 1}, []api.Entry{pick(1), pick(1), idle(), draw(1), tick()}},
	} {
		if g := script.Decode(c.b); !slices.Equal(g, c.want) {
			t.Errorf("Decode(%v) = %v, want %v", c.b, g, c.want)
		}
	}
}

// P4.1, as it is worded, for all pairs of bytes.
func TestDecodeAllPairs(t *testing.T) {
	for a := range 256 {
		for b := range 256 {
			want := api.Entry{Kind: a % 4, Value: b}
			if want.Kind == api.Tick || want.Kind == api.Idle {
				want.Value = 0
			}
			if g := script.Decode([]byte{byte(a), byte(b)}); !slices.Equal(g, []api.Entry{want}) {
				t.Errorf("Decode(%d %d) = %v, want %v", a, b, g, want)
			}
		}
	}
}

// P4.1: everything after MaxEntries entries is ignored, be it an entry, a byte or many of them.
func TestDecodeLimit(t *testing.T) {
	long := make([]byte, 2*api.MaxEntries+2*99)
	want := make([]api.Entry, api.MaxEntries)
	for i := range len(long) / 2 {
		long[2*i], long[2*i+1] = byte(2*i%4), byte(i%251)
		if i < len(want) {
			want[i] = api.Entry{Kind: 2 * i % 4, Value: i % 251}
		}
	}
	for _, c := range []struct{ bytes, entries int }{
		{2*api.MaxEntries - 3, api.MaxEntries - 2},
		{2*api.MaxEntries - 2, api.MaxEntries - 1},
		{2*api.MaxEntries - 1, api.MaxEntries - 1},
		{2 * api.MaxEntries, api.MaxEntries},
		{2*api.MaxEntries + 1, api.MaxEntries},
		{2*api.MaxEntries + 2, api.MaxEntries},
		{2*api.MaxEntries + 3, api.MaxEntries},
		{len(long), api.MaxEntries},
	} {
		if g := script.Decode(long[:c.bytes]); !slices.Equal(g, want[:c.entries]) {
			t.Errorf("Decode of %d bytes: %d entries, want the first %d", c.bytes, len(g), c.entries)
		}
	}
}

// P4.2, with each kind of entry written out: both bytes of valid ones, ErrRange and no bytes (R4) for others.
func TestEncode(t *testing.T) {
	for _, c := range []struct {
		l    []api.Entry
		want []byte
		err  api.Errno
	}{
		{nil, nil, api.OK},
		{[]api.Entry{}, nil, api.OK},
		// each kind with a valid value
		{[]api.Entry{pick(7)}, []byte{0, 7}, api.OK},
		{[]api.Entry{tick()}, []byte{1, 0}, api.OK},
		{[]api.Entry{draw(7)}, []byte{2, 7}, api.OK},
		{[]api.Entry{idle()}, []byte{3, 0}, api.OK},
		{[]api.Entry{idle(), pick(1), draw(2), tick(), pick(1)}, []byte{3, 0, 0, 1, 2, 2, 1, 0, 0, 1}, api.OK},
		// the ends of the range, and beyond them
		{[]api.Entry{pick(0)}, []byte{0, 0}, api.OK},
		{[]api.Entry{pick(255)}, []byte{0, 255}, api.OK},
		{[]api.Entry{pick(-1)}, nil, api.ErrRange},
		{[]api.Entry{pick(256)}, nil, api.ErrRange},
		{[]api.Entry{draw(0)}, []byte{2, 0}, api.OK},
		{[]api.Entry{draw(255)}, []byte{2, 255}, api.OK},
		{[]api.Entry{draw(-1)}, nil, api.ErrRange},
		{[]api.Entry{draw(256)}, nil, api.ErrRange},
		{[]api.Entry{{Kind: api.Tick, Value: 1}}, nil, api.ErrRange},
		{[]api.Entry{{Kind: api.Tick, Value: -1}}, nil, api.ErrRange},
		{[]api.Entry{{Kind: api.Tick, Value: 255}}, nil, api.ErrRange},
		{[]api.Entry{{Kind: api.Tick, Value: 256}}, nil, api.ErrRange},
		{[]api.Entry{{Kind: api.Idle, Value: 1}}, nil, api.ErrRange},
		{[]api.Entry{{Kind: api.Idle, Value: -1}}, nil, api.ErrRange},
		{[]api.Entry{{Kind: api.Idle, Value: 255}}, nil, api.ErrRange},
		{[]api.Entry{{Kind: api.Idle, Value: 256}}, nil, api.ErrRange},
		// kinds below 0 and above 3, also such as are a valid kind in one byte
		{[]api.Entry{{Kind: -1}}, nil, api.ErrRange},
		{[]api.Entry{{Kind: 4}}, nil, api.ErrRange},
		{[]api.Entry{{Kind: 4, Value: 7}}, nil, api.ErrRange},
		{[]api.Entry{{Kind: -4}}, nil, api.ErrRange},
		{[]api.Entry{{Kind: 256}}, nil, api.ErrRange},
		{[]api.Entry{{Kind: 257}}, nil, api.ErrRange},
		{[]api.Entry{{Kind: math.MinInt}}, nil, api.ErrRange},
		{[]api.Entry{{Kind: math.MaxInt}}, nil, api.ErrRange},
		// values at the limits of int
		{[]api.Entry{pick(math.MinInt)}, nil, api.ErrRange},
		{[]api.Entry{pick(math.MaxInt)}, nil, api.ErrRange},
		{[]api.Entry{draw(math.MinInt)}, nil, api.ErrRange},
		{[]api.Entry{draw(math.MaxInt)}, nil, api.ErrRange},
		{[]api.Entry{pick(1 << 32)}, nil, api.ErrRange},
		// an entry that is not valid at the beginning, in the middle and at the end
		{[]api.Entry{pick(256), pick(1), tick()}, nil, api.ErrRange},
		{[]api.Entry{pick(1), {Kind: 4}, tick()}, nil, api.ErrRange},
		{[]api.Entry{pick(1), tick(), draw(-1)}, nil, api.ErrRange},
	} {
		b, err := script.Encode(c.l)
		if !slices.Equal(b, c.want) || err != c.err {
			t.Errorf("Encode(%v) = %v, %d, want %v, %d", c.l, b, err, c.want, c.err)
		}
	}
}

// P4.2, as it is worded, for kinds and values around the valid ones.
func TestEncodeValid(t *testing.T) {
	for kind := -5; kind <= 8; kind++ {
		for value := -300; value <= 600; value++ {
			var want []byte
			err := api.ErrRange
			if (kind == api.Pick || kind == api.Draw) && 0 <= value && value <= 255 || (kind == api.Tick || kind == api.Idle) && value == 0 {
				want, err = []byte{byte(kind), byte(value)}, api.OK
			}
			b, e := script.Encode([]api.Entry{{Kind: kind, Value: value}})
			if !slices.Equal(b, want) || e != err {
				t.Errorf("Encode({%d %d}) = %v, %d, want %v, %d", kind, value, b, e, want, err)
			}
		}
	}
}

// P4.2: exactly MaxEntries entries are encoded; with one more, ErrLimit comes before ErrRange.
func TestEncodeLimit(t *testing.T) {
	l := make([]api.Entry, api.MaxEntries+1)
	want := make([]byte, 0, 2*len(l))
	for i := range l {
		l[i] = draw(i % 256)
		want = append(want, 2, byte(i%256))
	}
	b, err := script.Encode(l[:api.MaxEntries])
	if !slices.Equal(b, want[:2*api.MaxEntries]) || err != api.OK {
		t.Errorf("Encode of MaxEntries entries: %d bytes, error %d", len(b), err)
	}
	check := func(what string, l []api.Entry, want api.Errno) {
		t.Helper()
		if b, err := script.Encode(l); len(b) != 0 || err != want {
			t.Errorf("Encode of %s: %d bytes, error %d, want none, %d", what, len(b), err, want)
		}
	}
	check("one entry more", l, api.ErrLimit)
	check("twice as many", repeat(2, l...), api.ErrLimit)
	for _, at := range []int{0, 1, api.MaxEntries - 1, api.MaxEntries} {
		bad := slices.Clone(l)
		bad[at] = pick(256)
		check(fmt.Sprintf("one entry more, and entry %d not valid", at), bad, api.ErrLimit)
		if at < api.MaxEntries {
			check(fmt.Sprintf("MaxEntries entries, and entry %d not valid", at), bad[:api.MaxEntries], api.ErrRange)
		}
	}
}

// The section 'Consequences': Decode returns what was encoded; and what was decoded can be encoded.
func TestDecodeOfEncode(t *testing.T) {
	next := mixed(4)
	for n := range 400 {
		l := make([]api.Entry, n)
		for i := range l {
			l[i] = []api.Entry{pick(next(256)), tick(), draw(next(256)), idle()}[next(4)]
		}
		b, err := script.Encode(l)
		if err != api.OK {
			t.Fatalf("Encode(%v): error %d", l, err)
		}
		if g := script.Decode(b); !slices.Equal(g, l) {
			t.Fatalf("Decode(Encode(%v)) = %v", l, g)
		}
		for i := range b {
			b[i] = byte(next(256))
		}
		d := script.Decode(b)
		c, err := script.Encode(d)
		if g := script.Decode(c); err != api.OK || len(g) != n || !slices.Equal(g, d) {
			t.Fatalf("Decode(%v) = %v, encoded with error %d and decoded again: %v", b, d, err, g)
		}
	}
}

// P4.5, with each kind of value and each other kind of entry written out.
func TestMachine(t *testing.T) {
	for _, c := range []struct {
		e              api.Entry
		machines, want int
	}{
		// values of 0, below, equal to and above the number of machines
		{pick(0), 3, 0},
		{pick(2), 3, 2},
		{pick(3), 3, 0},
		{pick(4), 3, 1},
		{pick(7), 3, 1},
		{pick(255), 17, 0},
		{pick(255), 16, 15},
		{pick(1000003), 10, 3},
		// negative values
		{pick(-1), 3, 2},
		{pick(-2), 3, 1},
		{pick(-3), 3, 0},
		{pick(-4), 3, 2},
		{pick(-1000003), 10, 7},
		// one machine
		{pick(0), 1, 0},
		{pick(5), 1, 0},
		{pick(-5), 1, 0},
		{pick(math.MinInt), 1, 0},
		{pick(math.MaxInt), 1, 0},
		// the least and the greatest int
		{pick(math.MinInt), 2, 0},
		{pick(math.MinInt), 3, 1},
		{pick(math.MinInt), 10, 2},
		{pick(math.MinInt), math.MaxInt, math.MaxInt - 1},
		{pick(math.MaxInt), 2, 1},
		{pick(math.MaxInt), 10, 7},
		{pick(math.MaxInt), math.MaxInt, 0},
		{pick(math.MaxInt - 1), math.MaxInt, math.MaxInt - 1},
		{pick(0), math.MaxInt, 0},
		{pick(7), math.MaxInt, 7},
		{pick(-7), math.MaxInt, math.MaxInt - 7},
		{pick(-math.MaxInt), math.MaxInt, 0},
		// no number of machines
		{pick(0), 0, -1},
		{pick(7), 0, -1},
		{pick(-7), 0, -1},
		{pick(7), -1, -1},
		{pick(7), -3, -1},
		{pick(-7), -3, -1},
		{pick(7), math.MinInt, -1},
		{pick(math.MinInt), -1, -1},
		{pick(math.MinInt), math.MinInt, -1},
		// other kinds
		{tick(), 3, -1},
		{draw(0), 3, -1},
		{draw(2), 3, -1},
		{idle(), 3, -1},
		{tick(), 1, -1},
		{idle(), 0, -1},
		{draw(2), -1, -1},
		{draw(7), math.MaxInt, -1},
		{api.Entry{Kind: api.Tick, Value: 7}, 3, -1},
		{api.Entry{Kind: api.Idle, Value: 7}, 3, -1},
		{api.Entry{Kind: 4, Value: 7}, 3, -1},
		{api.Entry{Kind: -1, Value: 7}, 3, -1},
		{api.Entry{Kind: -4, Value: 7}, 3, -1},
		{api.Entry{Kind: math.MinInt, Value: 7}, 3, -1},
		{api.Entry{Kind: math.MaxInt, Value: 7}, 3, -1},
	} {
		if g := script.Machine(c.e, c.machines); g != c.want {
			t.Errorf("Machine(%v, %d) = %d, want %d", c.e, c.machines, g, c.want)
		}
	}
}

// P4.5, as it is worded, for all pairs of numbers at the limits and of small ones, and for all kinds around the valid ones.
func TestMachineModulo(t *testing.T) {
	l := []int{math.MinInt, math.MinInt + 1, math.MinInt32 - 1, -65536, 65536, math.MaxInt32 + 1, 1 << 62, math.MaxInt - 1, math.MaxInt}
	for i := -300; i <= 300; i++ {
		l = append(l, i)
	}
	for _, v := range l {
		for _, n := range l {
			want := -1
			if n >= 1 {
				want = modulo(v, n)
			}
			if g := script.Machine(pick(v), n); g != want {
				t.Errorf("Machine(Pick %d, %d) = %d, want %d", v, n, g, want)
			}
			for kind := -5; kind <= 5; kind++ {
				if g := script.Machine(api.Entry{Kind: kind, Value: v}, n); kind != api.Pick && g != -1 {
					t.Errorf("Machine({%d %d}, %d) = %d, want -1", kind, v, n, g)
				}
			}
		}
	}
}

// P4.3, with each kind of list and of number of machines written out.
func TestRounds(t *testing.T) {
	two := []api.Entry{pick(0), tick(), pick(1), pick(1), pick(0), tick()}
	for _, c := range []struct {
		l              []api.Entry
		machines, want int
	}{
		// no entries
		{nil, 1, 0},
		{[]api.Entry{}, 1, 0},
		{nil, 0, 0},
		{nil, -1, 0},
		{nil, math.MaxInt, 0},
		// the number of machines
		{two, 1, 2},
		{two, 2, 2},
		{two, 3, 0},
		{two, 0, 0},
		{two, -1, 0},
		{two, -2, 0},
		{two, math.MinInt, 0},
		{two, math.MaxInt, 0},
		{two, math.MaxInt - 1, 0},
		// a Tick alone, a Pick alone, and both in both orders
		{[]api.Entry{tick()}, 1, 0},
		{[]api.Entry{pick(0)}, 1, 0},
		{[]api.Entry{pick(0), tick()}, 1, 1},
		{[]api.Entry{tick(), pick(0)}, 1, 1},
		{[]api.Entry{tick(), tick()}, 1, 0},
		{[]api.Entry{pick(0), pick(0)}, 1, 0},
		// one machine less than entries, as many, and more
		{[]api.Entry{pick(0), pick(1), pick(2), tick()}, 3, 1},
		{[]api.Entry{tick(), pick(2), pick(1), pick(0)}, 3, 1},
		{[]api.Entry{pick(0), pick(1), pick(2), tick()}, 4, 0},
		{[]api.Entry{pick(0), pick(1), pick(2), pick(3)}, 4, 0},
		{[]api.Entry{pick(0), pick(1), pick(2), tick()}, 5, 0},
		// a machine is missing, each in turn
		{[]api.Entry{pick(1), pick(2), pick(1), pick(2), tick(), tick()}, 3, 0},
		{[]api.Entry{pick(0), pick(2), pick(0), pick(2), tick(), tick()}, 3, 0},
		{[]api.Entry{pick(0), pick(1), pick(0), pick(1), tick(), tick()}, 3, 0},
		{[]api.Entry{pick(0), pick(1), pick(2), pick(0), pick(1), pick(2)}, 3, 0},
		// negative values, and values greater than the number of machines
		{[]api.Entry{pick(5), tick(), pick(-2)}, 2, 1},
		{[]api.Entry{pick(4), tick(), pick(-2)}, 2, 0},
		{[]api.Entry{pick(-1), pick(-2), pick(-3), tick()}, 3, 1},
		{[]api.Entry{pick(-1), pick(-4), pick(-3), tick()}, 3, 0},
		{[]api.Entry{pick(math.MinInt), tick(), pick(math.MaxInt)}, 2, 1},
		{[]api.Entry{pick(3), pick(300), tick(), tick(), pick(301), pick(302)}, 3, 1},
		{[]api.Entry{pick(300), pick(600), tick(), tick(), pick(301), pick(299)}, 3, 1},
		// Draws and Idles, and what is no entry, count for nothing
		{[]api.Entry{draw(0), pick(0), idle(), draw(1), tick(), draw(1)}, 2, 0},
		{[]api.Entry{draw(1), pick(0), idle(), pick(1), tick(), idle()}, 2, 1},
		{[]api.Entry{pick(0), {Kind: 4}, {Kind: 5}, {Kind: -3}, idle()}, 1, 0},
		{[]api.Entry{tick(), {Kind: 4}, {Kind: -4}, draw(0), idle()}, 1, 0},
		{[]api.Entry{draw(1), idle(), draw(0), idle()}, 1, 0},
		// the last entry of the shortest complete list ends it, be it a Tick or a Pick
		{[]api.Entry{tick(), pick(0), tick(), pick(0)}, 1, 2},
		{[]api.Entry{tick(), pick(0), pick(0), tick()}, 1, 2},
		{[]api.Entry{pick(0), tick(), tick(), pick(0)}, 1, 2},
		// several Ticks, or several Picks, in a round
		{[]api.Entry{tick(), tick(), tick(), pick(0), tick()}, 1, 1},
		{[]api.Entry{pick(0), pick(0), pick(0), tick(), pick(0)}, 1, 1},
		{[]api.Entry{pick(0), tick(), tick(), tick(), pick(1)}, 2, 1},
		{[]api.Entry{pick(0), tick(), pick(0), tick(), pick(0), tick(), pick(1), pick(1)}, 2, 1},
		// entries behind a complete list belong to the next one
		{[]api.Entry{pick(0), tick(), tick(), pick(0), pick(0), pick(0), tick()}, 1, 3},
		{[]api.Entry{pick(0), pick(1), tick(), pick(1), pick(0), tick()}, 2, 2},
		{[]api.Entry{pick(0), pick(1), tick(), tick(), pick(1), pick(0)}, 2, 2},
		{[]api.Entry{pick(0), pick(1), tick(), tick(), tick(), pick(1), pick(1)}, 2, 1},
		// the list ends within a round
		{[]api.Entry{pick(0), pick(1), tick(), pick(0), pick(1)}, 2, 1},
		{[]api.Entry{pick(0), pick(1), tick(), pick(0), tick()}, 2, 1},
		{[]api.Entry{pick(0), pick(1), tick(), pick(0), pick(0), pick(0), tick(), tick()}, 2, 1},
		{[]api.Entry{pick(0), tick(), pick(0)}, 1, 1},
		{[]api.Entry{pick(0), tick(), tick()}, 1, 1},
		{[]api.Entry{pick(0), tick(), pick(0), tick()}, 1, 2},
		// Ticks and entries that are not valid otherwise
		{[]api.Entry{pick(0), {Kind: api.Tick, Value: 9}}, 1, 1},
		{[]api.Entry{pick(256), pick(-255), {Kind: api.Tick, Value: -1}}, 2, 1},
	} {
		if g := script.Rounds(c.l, c.machines); g != c.want {
			t.Errorf("Rounds(%v, %d) = %d, want %d", c.l, c.machines, g, c.want)
		}
	}
}

// P4.4, with each kind of list, of number of machines and of k written out.
func TestFair(t *testing.T) {
	five := []api.Entry{pick(0), tick(), pick(0), tick(), tick()}
	for _, c := range []struct {
		l           []api.Entry
		machines, k int
		want        bool
	}{
		// no entries
		{nil, 1, 1, true},
		{[]api.Entry{}, 1, 1, true},
		{nil, 1, math.MaxInt, true},
		{nil, math.MaxInt, 1, true},
		{nil, math.MaxInt, math.MaxInt, true},
		{nil, 0, 1, false},
		{nil, -1, 1, false},
		{nil, 1, 0, false},
		{nil, 1, -1, false},
		{nil, 0, 0, false},
		// k of 1, 0 and negative
		{five, 1, 1, false},
		{five, 1, 0, false},
		{five, 1, -1, false},
		{five, 1, -5, false},
		{five, 1, math.MinInt, false},
		{[]api.Entry{tick()}, 1, 1, false},
		{[]api.Entry{pick(0)}, 1, 1, false},
		{[]api.Entry{draw(0)}, 1, 1, false},
		// k equal to the length of the list, around it, and the greatest int
		{five, 1, 2, false},
		{five, 1, 3, true},
		{five, 1, 4, true},
		{five, 1, 5, true},
		{five, 1, 6, true},
		{five, 1, math.MaxInt, true},
		{five, 2, 4, false},
		{five, 2, 5, false},
		{five, 2, 6, true},
		{five, 2, 7, true},
		{five, 2, math.MaxInt, true},
		{five[:4], 1, 2, true},
		{five[:1], 1, 1, false},
		{five[:1], 1, 2, true},
		// the number of machines
		{five, 0, 3, false},
		{five, -1, 3, false},
		{five, math.MinInt, 3, false},
		{five, 0, 6, false},
		{five, -1, math.MaxInt, false},
		{five, math.MaxInt, 3, false},
		{five, math.MaxInt, 5, false},
		{five, math.MaxInt - 1, 5, false},
		{five, math.MaxInt, 6, true},
		{five, math.MaxInt, math.MaxInt, true},
		{five, math.MaxInt - 1, math.MaxInt, true},
		// an entry for each machine and a Tick in k entries, and one machine more
		{[]api.Entry{pick(0), pick(1), pick(2), tick()}, 3, 4, true},
		{[]api.Entry{pick(0), pick(1), pick(2), tick()}, 4, 4, false},
		{[]api.Entry{pick(0), pick(1), pick(2), pick(3)}, 4, 4, false},
		{[]api.Entry{pick(0), pick(1), pick(2), tick()}, 5, 4, false},
		{repeat(3, pick(0), pick(1), pick(2), tick()), 3, 4, true},
		{repeat(3, pick(0), pick(1), pick(2), tick()), 3, 3, false},
		// k entries that are not complete at the beginning: no Pick, no Tick
		{[]api.Entry{tick(), tick(), pick(0), tick(), pick(0)}, 1, 2, false},
		{[]api.Entry{pick(0), pick(0), tick(), pick(0), tick()}, 1, 2, false},
		{[]api.Entry{draw(0), idle(), pick(0), tick(), pick(0), tick()}, 1, 3, false},
		{[]api.Entry{draw(0), idle(), pick(0), tick(), pick(0), tick()}, 1, 4, true},
		{[]api.Entry{pick(0), tick(), pick(0), tick(), pick(1), tick(), pick(0)}, 2, 4, false},
		{[]api.Entry{pick(0), tick(), pick(0), tick(), pick(1), tick(), pick(0)}, 2, 5, true},
		// in the middle
		{[]api.Entry{pick(0), tick(), draw(0), draw(0), draw(0), pick(0), tick()}, 1, 3, false},
		{[]api.Entry{pick(0), tick(), draw(0), draw(0), draw(0), pick(0), tick()}, 1, 4, false},
		{[]api.Entry{pick(0), tick(), draw(0), draw(0), draw(0), pick(0), tick()}, 1, 5, true},
		{[]api.Entry{pick(0), tick(), tick(), pick(0)}, 1, 2, false},
		{[]api.Entry{tick(), pick(0), pick(0), tick()}, 1, 2, false},
		{[]api.Entry{tick(), pick(0), pick(0), tick()}, 1, 3, true},
		// at the end
		{[]api.Entry{pick(0), tick(), pick(0), tick(), tick()}, 1, 2, false},
		{[]api.Entry{tick(), pick(0), tick(), pick(0), pick(0)}, 1, 2, false},
		{[]api.Entry{pick(0), tick(), pick(0), tick(), draw(0), idle()}, 1, 3, false},
		{[]api.Entry{pick(0), tick(), pick(0), tick(), draw(0), idle()}, 1, 4, true},
		{[]api.Entry{pick(1), tick(), pick(0), pick(1), tick(), pick(1), tick()}, 2, 4, false},
		{[]api.Entry{pick(1), tick(), pick(0), pick(1), tick(), pick(1), tick()}, 2, 5, true},
		// a machine that is never picked, and no Tick at all
		{repeat(5, pick(0), pick(1), tick()), 3, 14, false},
		{repeat(5, pick(1), pick(2), tick()), 3, 14, false},
		{repeat(5, pick(0), pick(1)), 2, 9, false},
		{repeat(5, tick()), 1, 4, false},
		{repeat(5, draw(0)), 1, 4, false},
		// values that are negative, or greater than the number of machines
		{[]api.Entry{pick(4), pick(-1), tick(), pick(-2), pick(5), tick()}, 2, 3, true},
		{[]api.Entry{pick(4), pick(-2), tick(), pick(-2), pick(5), tick()}, 2, 4, false},
		{[]api.Entry{pick(math.MinInt), tick(), pick(math.MaxInt)}, 2, 3, true},
		// entries that are not valid otherwise
		{[]api.Entry{pick(256), {Kind: api.Tick, Value: 9}, pick(-1)}, 1, 2, true},
		{[]api.Entry{pick(0), {Kind: 4}, {Kind: 5}, {Kind: -3}}, 1, 4, false},
		{[]api.Entry{tick(), {Kind: 4}, {Kind: -4}}, 1, 3, false},
	} {
		if g := script.Fair(c.l, c.machines, c.k); g != c.want {
			t.Errorf("Fair(%v, %d, %d) = %v, want %v", c.l, c.machines, c.k, g, c.want)
		}
	}
}

// P4.3 and P4.4, as they are worded, for every short list; and the second of the section 'Consequences'.
func TestAllShortLists(t *testing.T) {
	for _, c := range []struct {
		alphabet []api.Entry
		n        int
	}{
		{[]api.Entry{pick(0), tick(), draw(0)}, 8},
		{[]api.Entry{pick(0), pick(1), tick()}, 8},
		{[]api.Entry{pick(3), pick(-2), pick(1), tick(), idle()}, 5},
	} {
		lists(c.alphabet, c.n, func(l []api.Entry) { compare(t, l, 3) })
	}
}

// compare compares Rounds and Fair with the plain ones, for each number of machines from -1 to most and each k from -1 to the first one that is greater than the list is long.
func compare(t *testing.T, l []api.Entry, most int) {
	t.Helper()
	for machines := -1; machines <= most; machines++ {
		rounds := plainRounds(l, machines)
		if g := script.Rounds(l, machines); g != rounds {
			t.Errorf("Rounds(%v, %d) = %d, want %d", l, machines, g, rounds)
		}
		for k := -1; k <= len(l)+1; k++ {
			fair := plainFair(l, machines, k)
			if g := script.Fair(l, machines, k); g != fair {
				t.Errorf("Fair(%v, %d, %d) = %v, want %v", l, machines, k, g, fair)
			}
			if fair && rounds < len(l)/k {
				t.Errorf("%v is fair for %d machines and %d, but has only %d rounds", l, machines, k, rounds)
			}
		}
	}
}

// P4.3 and P4.4 for longer mixed lists, some with few Picks of a machine or few Ticks.
func TestMixedLists(t *testing.T) {
	next := mixed(11)
	for range 300 {
		l := make([]api.Entry, next(60))
		ticks, values := 1+next(8), 1+next(12)
		for i := range l {
			switch n := next(12); {
			case n < ticks:
				l[i] = tick()
			case n == 11:
				l[i] = []api.Entry{draw(next(9)), idle()}[next(2)]
			default:
				l[i] = pick(next(values) - next(20)/19*7)
			}
		}
		compare(t, l, 6)
		if t.Failed() {
			return
		}
	}
}

// The section 'Consequences': a fair list of k * n entries has at least n rounds; here exactly n, for lists with no entry to spare.
func TestFairHasRounds(t *testing.T) {
	for machines := 1; machines <= 20; machines++ {
		k := machines + 1
		for n := range 8 {
			l := repeat(n, append(picks(0, machines-1), tick())...)
			if !script.Fair(l, machines, k) {
				t.Errorf("%d times all of %d machines and a Tick: not fair for %d", n, machines, k)
			}
			if g := script.Rounds(l, machines); g != n {
				t.Errorf("%d times all of %d machines and a Tick: %d rounds", n, machines, g)
			}
		}
	}
}

// R1 for P4.3 and P4.4: long lists, longer than a script may be, and many machines and a great k end in a moment.
func TestLongLists(t *testing.T) {
	const n = api.MaxEntries
	many := append(picks(0, n-2), tick())
	for _, c := range []struct {
		l                   []api.Entry
		machines, k, rounds int
		fair                bool
	}{
		{repeat(n/2, pick(0), tick()), 1, 2, n / 2, true},
		{repeat(n, pick(0), tick()), 1, 2, n, true},
		{repeat(n, pick(0), tick()), 2, 2 * n, 0, false},
		{repeat(n/4, tick(), pick(7), pick(6), idle()), 2, 4, n / 4, true},
		{repeat(n/4, tick(), pick(7), pick(6), idle()), 2, 3, n / 4, false},
		{many, n - 1, n, 1, true},
		{many, n - 1, n - 1, 1, false},
		{many, n - 2, n, 1, true},
		{many, n - 2, n - 1, 1, false},
		{many, n, n, 0, false},
		{many, n / 2, n / 2, 1, false},
		{repeat(4, many...), n - 1, n, 4, true},
		{repeat(4, many...), n - 1, n - 1, 4, false},
		{repeat(4, many...), n - 1, 2 * n, 4, true},
		{repeat(4, many...), n, 2 * n, 0, false},
		{repeat(4, many...), 4*n - 1, 4 * n, 0, false},
		{repeat(4, many...), math.MaxInt, 4 * n, 0, false},
		{repeat(4, many...), math.MaxInt, math.MaxInt, 0, true},
		{append(repeat(n/2, draw(1)), many...), n - 1, n + n/2, 1, true},
		{append(repeat(n/2, draw(1)), many...), n - 1, n + n/2 - 1, 1, false},
	} {
		if g := script.Rounds(c.l, c.machines); g != c.rounds {
			t.Errorf("Rounds of %d entries for %d machines = %d, want %d", len(c.l), c.machines, g, c.rounds)
		}
		if g := script.Fair(c.l, c.machines, c.k); g != c.fair {
			t.Errorf("Fair of %d entries for %d machines and %d = %v, want %v", len(c.l), c.machines, c.k, g, c.fair)
		}
	}
}

// R3: neither the bytes nor the list is changed, also behind its end, and what is returned shares no memory with it or with another result.
func TestResultsAreNew(t *testing.T) {
	b := []byte{4, 5, 1, 9, 2, 200, 3, 1, 7}
	kept := slices.Clone(b)
	l := script.Decode(b[:6])
	m := script.Decode(b[:6])
	if !slices.Equal(b, kept) {
		t.Errorf("Decode changed its bytes: %v", b)
	}
	want := []api.Entry{pick(5), tick(), draw(200)}
	for i := range b {
		b[i]++
	}
	for i := range l {
		l[i].Value++
	}
	if !slices.Equal(m, want) || !slices.Equal(script.Decode(kept[:6]), want) {
		t.Errorf("Decode shares memory with its argument or another result: %v", m)
	}

	list := []api.Entry{pick(5), tick(), draw(200), idle(), pick(-7)}
	saved := slices.Clone(list)
	x, _ := script.Encode(list[:4])
	y, _ := script.Encode(list[:4])
	script.Encode(list)
	script.Rounds(list, 2)
	script.Rounds(list[:4], 1)
	script.Fair(list, 2, 3)
	script.Fair(list[:4], 1, 2)
	if !slices.Equal(list, saved) {
		t.Errorf("a call changed its list: %v", list)
	}
	bytes := []byte{0, 5, 1, 0, 2, 200, 3, 0}
	for i := range list {
		list[i].Value++
	}
	for i := range x {
		x[i]++
	}
	if again, _ := script.Encode(saved[:4]); !slices.Equal(y, bytes) || !slices.Equal(again, bytes) {
		t.Errorf("Encode shares memory with its argument or another result: %v", y)
	}
}

// The chapter's examples.
func TestExamples(t *testing.T) {
	if g, w := script.Decode([]byte{0, 5, 1, 9, 2, 200}), []api.Entry{pick(5), tick(), draw(200)}; !slices.Equal(g, w) {
		t.Errorf("example 1: Decode = %v, want %v", g, w)
	}
	if g := script.Rounds([]api.Entry{pick(0), tick(), pick(1), pick(1), pick(0), tick()}, 2); g != 2 {
		t.Errorf("example 2: Rounds = %d, want 2", g)
	}
}
