package event_test

import (
	"fmt"
	"math"
	"slices"
	"strconv"
	"strings"
	"testing"

	"worksteal/api"
	"worksteal/event"
)

// templates returns the table of the chapter: the line of each kind.
func templates() map[int]string {
	return map[int]string{
		api.EvAccept: "accept WORKER TASK OTHER LEVEL",
		api.EvReject: "reject WORKER OTHER LEVEL",
		api.EvSpawn:  "spawn WORKER TASK OTHER LEVEL",
		api.EvRefuse: "refuse WORKER TASK",
		api.EvStart:  "start WORKER TASK",
		api.EvBlock:  "block WORKER TASK OTHER",
		api.EvSettle: "settle WORKER TASK LEVEL",
		api.EvJoin:   "join WORKER TASK OTHER",
		api.EvResume: "resume WORKER TASK",
		api.EvFinish: "finish WORKER TASK",
		api.EvBoost:  "boost WORKER TASK LEVEL",
		api.EvAge:    "age WORKER TASK LEVEL",
		api.EvRemove: "remove WORKER TASK",
		api.EvSteal:  "steal WORKER TASK OTHER LEVEL",
		api.EvSkip:   "skip WORKER TASK",
		api.EvPark:   "park WORKER",
		api.EvUnpark: "unpark WORKER OTHER",
		api.EvWake:   "wake WORKER OTHER",
		api.EvNoRoom: "noroom WORKER TASK LEVEL",
	}
}

// kinds returns the kinds of the table, the least one first.
func kinds() []int {
	var l []int
	for k := range templates() {
		l = append(l, k)
	}
	slices.Sort(l)
	return l
}

// names returns the names of the fields, as the table writes them.
func names() []string { return []string{"WORKER", "TASK", "OTHER", "LEVEL"} }

// field returns the field of an event that has a name.
func field(e *api.Event, name string) *int {
	switch name {
	case "WORKER":
		return &e.Worker
	case "TASK":
		return &e.Task
	case "OTHER":
		return &e.Other
	}
	return &e.Level
}

// contains reports whether the line of a kind contains a field.
func contains(kind int, name string) bool { return strings.Contains(templates()[kind], name) }

// plainValid returns what P7.1 says for Valid.
func plainValid(e api.Event) bool {
	if templates()[e.Kind] == "" {
		return false
	}
	for _, name := range names() {
		v := *field(&e, name)
		if contains(e.Kind, name) && (v < 0 || v > 256) || !contains(e.Kind, name) && v != 0 {
			return false
		}
	}
	return true
}

// plainLine returns the line of a valid event, with its line feed: the one of the table, with numbers instead of the names.
func plainLine(e api.Event) string {
	s := templates()[e.Kind]
	for _, name := range names() {
		s = strings.Replace(s, name, strconv.Itoa(*field(&e, name)), 1)
	}
	return s + "\n"
}

// plainText returns the lines of valid events.
func plainText(l []api.Event) string {
	var b strings.Builder
	for _, e := range l {
		b.WriteString(plainLine(e))
	}
	return b.String()
}

// plainRead returns the valid event of a line, and whether there is one: it holds each part of the line against the table, and each number against all numbers that may be there.
func plainRead(line string) (api.Event, bool) {
	body, ok := strings.CutSuffix(line, "\n")
	if !ok {
		return api.Event{}, false
	}
	parts := strings.Split(body, " ")
	for kind, template := range templates() {
		want := strings.Split(template, " ")
		if parts[0] != want[0] {
			continue
		}
		if len(parts) != len(want) {
			return api.Event{}, false
		}
		e := api.Event{Kind: kind}
		for i := 1; i < len(want); i++ {
			at := slices.Index(allNumbers, parts[i])
			if at < 0 {
				return api.Event{}, false
			}
			*field(&e, want[i]) = at
		}
		return e, true
	}
	return api.Event{}, false
}

// allNumbers contains the digits of each number from 0 to 256 at its place.
var allNumbers = func() []string {
	var l []string
	for v := range 257 {
		l = append(l, fmt.Sprint(v))
	}
	return l
}()

// plainParse returns what P7.3 says for Parse of a text that is not too long.
func plainParse(text string) ([]api.Event, int, api.Errno) {
	var l []api.Event
	for i, line := range strings.SplitAfter(text, "\n") {
		if line == "" {
			break // behind the last line feed
		}
		e, ok := plainRead(line)
		if !ok {
			return nil, i + 1, api.ErrSyntax
		}
		if len(l) == 65536 {
			return nil, i + 1, api.ErrLimit
		}
		l = append(l, e)
	}
	return l, 0, api.OK
}

// example returns a valid event of a kind, each number different from the others.
func example(kind int) api.Event {
	e := api.Event{Kind: kind}
	for i, name := range names() {
		if contains(kind, name) {
			*field(&e, name) = 10*(i+1) + kind%10
		}
	}
	return e
}

// examples returns an event of each kind.
func examples() []api.Event {
	var l []api.Event
	for _, k := range kinds() {
		l = append(l, example(k))
	}
	return l
}

// mixed returns a function whose calls return numbers from 0 to n - 1 that look random; the same seed gives the same ones.
func mixed(seed uint64) func(n int) int {
	return func(n int) int {
		seed = seed*6364136223846793005 + 1442695040888963407
		return int(seed >> 33 % uint64(n))
	}
}

// mixedEvents returns n valid events of all kinds.
func mixedEvents(n int, next func(n int) int) []api.Event {
	var l []api.Event
	for range n {
		e := api.Event{Kind: kinds()[next(19)]}
		for _, name := range names() {
			if contains(e.Kind, name) {
				*field(&e, name) = next([]int{2, 12, 257}[next(3)])
			}
		}
		l = append(l, e)
	}
	return l
}

// checkFormat reports an error if Format of l is not the wanted text and error.
func checkFormat(t *testing.T, what string, l []api.Event, want string, err api.Errno) {
	t.Helper()
	if g, e := event.Format(l); g != want || e != err {
		t.Errorf("Format of %s: %s, error %d, want %s, error %d", what, short(g), e, short(want), err)
	}
}

// checkParse reports an error if Parse of a text is not the wanted events, line and error.
func checkParse(t *testing.T, what, text string, want []api.Event, line int, err api.Errno) {
	t.Helper()
	if g, n, e := event.Parse(text); !slices.Equal(g, want) || n != line || e != err {
		t.Errorf("Parse of %s: %d events, line %d, error %d, want %d, line %d, error %d", what, len(g), n, e, len(want), line, err)
	}
}

// short returns a text for an error report.
func short(s string) string {
	if len(s) > 60 {
		return strconv.Quote(s[:60]) + fmt.Sprintf(".. (%d bytes)", len(s))
	}
	return strconv.Quote(s)
}

// bad returns an event that is not valid.
func bad() api.Event { return api.Event{Kind: api.EvPark, Task: 1} }

// P7.1: an event of each kind, with all fields that its line contains and with zeros alone.
func TestValidKinds(t *testing.T) {
	for kind := 1; kind <= 19; kind++ {
		for _, e := range []api.Event{example(kind), {Kind: kind}} {
			if !event.Valid(e) {
				t.Errorf("Valid(%v) = false", e)
			}
		}
	}
}

// P7.1: kinds that are not in the table, with and without numbers.
func TestValidOtherKinds(t *testing.T) {
	for _, kind := range []int{
		0, -1, 20, 21, 40, -19, 1 << 8, 1<<8 + 1, 1 << 16, 1<<16 + 1, 1 << 32, 1<<32 + 1, 1<<32 + 19,
		math.MinInt, math.MinInt + 1, math.MinInt32, math.MaxInt32, math.MaxInt - 1, math.MaxInt,
	} {
		for _, e := range []api.Event{{Kind: kind}, {Kind: kind, Worker: 1}, {Kind: kind, Worker: 1, Task: 2, Other: 3, Level: 4}} {
			if event.Valid(e) {
				t.Errorf("Valid(%v) = true", e)
			}
		}
	}
}

// P7.1: each field of each kind, at both ends of its range, beyond them, and at the limits of int, beside zeros and beside other numbers.
func TestValidFields(t *testing.T) {
	for _, kind := range kinds() {
		for _, name := range names() {
			for _, v := range []int{
				0, 1, 2, 9, 10, 255, 256, 257, 258, 512, -1, -2, -256, -257, 1 << 16, 1 << 32, 1<<32 + 1,
				math.MinInt, math.MinInt + 1, math.MinInt32, math.MaxInt32, math.MaxInt - 1, math.MaxInt,
			} {
				want := v == 0 || contains(kind, name) && 1 <= v && v <= 256
				for _, e := range []api.Event{{Kind: kind}, example(kind)} {
					*field(&e, name) = v
					if event.Valid(e) != want {
						t.Errorf("Valid(%v) = %t: %s %d", e, !want, name, v)
					}
				}
			}
		}
	}
}

// P7.1, as it is worded, for all events of some numbers.
func TestValidAllFields(t *testing.T) {
	some := []int{-1, 0, 1, 256, 257}
	for kind := -2; kind <= 22; kind++ {
		for _, worker := range some {
			for _, task := range some {
				for _, other := range some {
					for _, level := range some {
						e := api.Event{Kind: kind, Worker: worker, Task: task, Other: other, Level: level}
						if want := plainValid(e); event.Valid(e) != want {
							t.Errorf("Valid(%v) = %t, want %t", e, !want, want)
						}
					}
				}
			}
		}
	}
}

// texts returns the text of an event of each kind, written out.
func texts() map[string]api.Event {
	return map[string]api.Event{
		"accept 2 0 1 3\n":         {Kind: api.EvAccept, Worker: 2, Task: 0, Other: 1, Level: 3},
		"accept 256 256 256 256\n": {Kind: api.EvAccept, Worker: 256, Task: 256, Other: 256, Level: 256},
		"reject 4 63 2\n":          {Kind: api.EvReject, Worker: 4, Other: 63, Level: 2},
		"spawn 1 12 10 0\n":        {Kind: api.EvSpawn, Worker: 1, Task: 12, Other: 10, Level: 0},
		"refuse 0 256\n":           {Kind: api.EvRefuse, Worker: 0, Task: 256},
		"start 0 3\n":              {Kind: api.EvStart, Worker: 0, Task: 3},
		"block 15 7 8\n":           {Kind: api.EvBlock, Worker: 15, Task: 7, Other: 8},
		"settle 1 2 9\n":           {Kind: api.EvSettle, Worker: 1, Task: 2, Level: 9},
		"join 0 4 5\n":             {Kind: api.EvJoin, Worker: 0, Task: 4, Other: 5},
		"resume 3 4\n":             {Kind: api.EvResume, Worker: 3, Task: 4},
		"finish 10 100\n":          {Kind: api.EvFinish, Worker: 10, Task: 100},
		"boost 3 5 6\n":            {Kind: api.EvBoost, Worker: 3, Task: 5, Level: 6},
		"age 3 5 63\n":             {Kind: api.EvAge, Worker: 3, Task: 5, Level: 63},
		"remove 1 0\n":             {Kind: api.EvRemove, Worker: 1, Task: 0},
		"steal 3 5 1 2\n":          {Kind: api.EvSteal, Worker: 3, Task: 5, Other: 1, Level: 2},
		"skip 2 99\n":              {Kind: api.EvSkip, Worker: 2, Task: 99},
		"park 0\n":                 {Kind: api.EvPark, Worker: 0},
		"park 256\n":               {Kind: api.EvPark, Worker: 256},
		"unpark 1 2\n":             {Kind: api.EvUnpark, Worker: 1, Other: 2},
		"wake 16 0\n":              {Kind: api.EvWake, Worker: 16, Other: 0},
		"noroom 1 2 3\n":           {Kind: api.EvNoRoom, Worker: 1, Task: 2, Level: 3},
	}
}

// P7.2 and P7.3: the text of an event of each kind, written out, in both directions.
func TestTexts(t *testing.T) {
	for text, e := range texts() {
		checkFormat(t, fmt.Sprint(e), []api.Event{e}, text, api.OK)
		checkParse(t, short(text), text, []api.Event{e}, 0, api.OK)
	}
}

// P7.2 and P7.3: no events and the empty text.
func TestNothing(t *testing.T) {
	checkFormat(t, "nil", nil, "", api.OK)
	checkFormat(t, "an empty list", []api.Event{}, "", api.OK)
	checkParse(t, "the empty text", "", nil, 0, api.OK)
}

// P7.2 and P7.3: several events, the same one twice among them; each event that holds all pairs of some numbers.
func TestSeveral(t *testing.T) {
	l := []api.Event{{Kind: api.EvPark, Worker: 1}, {Kind: api.EvStart, Task: 3}, {Kind: api.EvPark, Worker: 1}, {Kind: api.EvAge, Worker: 2, Task: 10, Level: 7}}
	text := "park 1\nstart 0 3\npark 1\nage 2 10 7\n"
	checkFormat(t, "four events", l, text, api.OK)
	checkParse(t, "four events", text, l, 0, api.OK)

	some := []int{0, 1, 9, 10, 99, 100, 255, 256}
	for _, kind := range kinds() {
		l = nil
		for _, x := range some {
			for _, y := range some {
				for i, name := range names() {
					e := example(kind)
					if contains(kind, name) {
						*field(&e, name) = x
					}
					if next := names()[(i+1)%4]; contains(kind, next) {
						*field(&e, next) = y
					}
					l = append(l, e)
				}
			}
		}
		checkFormat(t, templates()[kind], l, plainText(l), api.OK)
		checkParse(t, templates()[kind], plainText(l), l, 0, api.OK)
	}
}

// P7.2: an event that is not valid as the first, a middle and the last one of several, and as the only one; no text beside the error (R4).
func TestFormatErrors(t *testing.T) {
	for _, x := range []api.Event{
		bad(), {}, {Kind: 20}, {Kind: -1}, {Kind: math.MinInt}, {Kind: math.MaxInt},
		{Kind: api.EvStart, Task: 257}, {Kind: api.EvStart, Worker: -1}, {Kind: api.EvStart, Other: 1}, {Kind: api.EvReject, Task: 1},
		{Kind: api.EvWake, Level: -1}, {Kind: api.EvAccept, Level: math.MaxInt}, {Kind: api.EvAccept, Other: math.MinInt},
	} {
		checkFormat(t, fmt.Sprint(x, " alone"), []api.Event{x}, "", api.ErrEvent)
		for at := range examples() {
			l := examples()
			l[at] = x
			checkFormat(t, fmt.Sprint(x, " at ", at), l, "", api.ErrEvent)
		}
	}
}

// P7.2: exactly MaxEvents events, of the longest lines; one more is ErrLimit, also where an event is not valid.
func TestFormatLimit(t *testing.T) {
	longest := api.Event{Kind: api.EvAccept, Worker: 256, Task: 256, Other: 256, Level: 256}
	l := slices.Repeat([]api.Event{longest}, 65537)
	text := strings.Repeat("accept 256 256 256 256\n", 65536)
	checkFormat(t, "MaxEvents events", l[:65536], text, api.OK)
	checkParse(t, "MaxEvents events", text, l[:65536], 0, api.OK)
	checkFormat(t, "one event more", l, "", api.ErrLimit)
	checkFormat(t, "twice as many", slices.Repeat(l, 2), "", api.ErrLimit)
	checkFormat(t, "events of no kind, too many", make([]api.Event, 65537), "", api.ErrLimit)
	checkFormat(t, "events of no kind, as many as possible", make([]api.Event, 65536), "", api.ErrEvent)
	for _, at := range []int{0, 1, 40000, 65535, 65536} {
		x := slices.Clone(l)
		x[at] = bad()
		checkFormat(t, fmt.Sprint("one event more, and event ", at, " not valid"), x, "", api.ErrLimit)
		if at < 65536 {
			checkFormat(t, fmt.Sprint("MaxEvents events, and event ", at, " not valid"), x[:65536], "", api.ErrEvent)
		}
	}
}

// wrong returns texts of one line that is not the line of a valid event, without its line feed.
func wrong() []string {
	return []string{
		// blanks, and nothing at all
		"", " ", "  ", "park  1", " park 1", "park 1 ", "park 1  ", "park ", " park", "start 0  3", "start  0 3", "start 0 3 ", " start 0 3", "unpark 1 ",
		// numbers of another form
		"park 01", "park 00", "park 001", "park 0256", "park +1", "park -1", "park -0", "park +0", "park --1", "park x", "park 1x", "park x1", "park 0x1", "park 1_0",
		"park 1.", "park 1.0", "park 1e1", "park 1,2", "park '1'", "start 03 3", "start 0 03", "start 0 -3", "start 3 +3", "start 0 x", "start x 0",
		// numbers too large for the field, for an int, and for longer words; such that are small in fewer bits
		"park 257", "park 258", "park 999", "park 1000", "park 65537", "park 4294967296", "park 4294967297", "park 9223372036854775807", "park 9223372036854775808",
		"park 18446744073709551615", "park 18446744073709551616", "park 18446744073709551617", "park 99999999999999999999", "park 340282366920938463463374607431768211457",
		"park -9223372036854775808", "park -9223372036854775809", "start 257 3", "start 0 257", "boost 0 0 257", "accept 0 0 0 257", "accept 0 0 257 0", "start 0 18446744073709551619",
		// too few and too many numbers
		"park", "park 1 2", "park 1 0", "start", "start 1", "start 1 2 3", "start 1 2 0", "boost 1 2", "boost 1 2 3 4", "reject 1 2", "reject 1 2 3 4", "accept 1 2 3", "accept 1 2 3 4 5",
		"accept 1 2 3 4 0", "unpark 1", "unpark 1 2 3", "wake 1", "noroom 1 2", "noroom 1 2 3 4", "steal 1 2 3", "settle 1 2", "block 1 2",
		// words that are not in the table, and parts of those that are
		"stop 1", "parks 1", "par 1", "ark 1", "p 1", "un 1", "unparkpark 1 2", "parkunpark 1", "1", "1 2", "16 1", "0", "Park 1", "PARK 1", "parK 1", "Start 0 3", "noRoom 1 2 3", "no room 1 2 3",
		"EvPark 1", "none", "none 1", "park1", "park1 2", "park:1", "start0 3", "accept-1 2 3 4", "pa rk 1", "WORKER", "park WORKER", " 0 0", " 1 2 3 4",
		// bytes that are no letters
		"park 1\r", "park\t1", "park 1\t", "\tpark 1", "\rpark 1", "park\r1", "park\v1", "park\f1", "park\u00a01", "park 1\x00", "\x00", "\x00park 1", "park\x00 1", "park 1\x00 ", "park \x001",
		"\xffpark 1", "park \xff", "park 1\xff", "p\xc3\xa4rk 1", "park \u0661", "park \uff11", "\ufeffpark 1", "park 1#", "park 1;",
	}
}

// P7.3: each wrong line as the only one, and behind and before right ones, also of kinds whose lines are longer.
func TestParseWrongLines(t *testing.T) {
	right := plainText(examples())
	for _, x := range wrong() {
		checkParse(t, short(x), x+"\n", nil, 1, api.ErrSyntax)
		checkParse(t, short(x)+" before others", x+"\n"+right, nil, 1, api.ErrSyntax)
		checkParse(t, short(x)+" behind others", right+x+"\n", nil, 20, api.ErrSyntax)
		checkParse(t, short(x)+" between others", right+x+"\n"+right, nil, 20, api.ErrSyntax)
	}
}

// P7.3: a last part without a line feed is a wrong line, whether it would be right with one or not.
func TestParseLastPart(t *testing.T) {
	for text, e := range texts() {
		checkParse(t, short(text)+" without its last byte", text[:len(text)-1], nil, 1, api.ErrSyntax)
		for end := 1; end < len(text); end++ {
			checkParse(t, "a part of "+short(text), text+text[:end], nil, 2, api.ErrSyntax)
		}
		checkParse(t, "twice "+short(text), text+text, []api.Event{e, e}, 0, api.OK)
	}
	for _, x := range wrong() {
		if x != "" {
			checkParse(t, short(x)+" without a line feed", "park 1\n"+x, nil, 2, api.ErrSyntax)
		}
	}
}

// P7.3: empty lines, and which of several wrong lines is told.
func TestParseFirstWrongLine(t *testing.T) {
	for _, x := range []struct {
		text string
		line int
	}{
		{"\n", 1},
		{"\n\n", 1},
		{"\npark 1\n", 1},
		{"park 1\n\n", 2},
		{"park 1\n\npark 1\n", 2},
		{"park 1\npark 2\n\n\n", 3},
		{"park\npark\n", 1},
		{"park 1\npark\npark 01\npark 1\n", 2},
		{"park 1\nstart 0 1\nboost 1 2\nPark 1\n\n", 3},
		{"park 1\nstart 0 1\nboost 1 2 3\nage 257 0 0\nx", 4},
		{"x\nx\nx", 1},
		{"park 1\r\npark 2\r\n", 1},
		{"park 1\n\rpark 2\n", 2},
		{"park 1\rpark 2\n", 1},
		{"park 1\n\x00\n", 2},
		{"park 1\npark 1 2 3 4 5 6 7 8 9\n", 2},
		{"park\n1\n", 1},
		{"start 0\n3\n", 1},
		{"start 0 3park 1\n", 1},
		{"start 0 3 park 1\n", 1},
	} {
		checkParse(t, short(x.text), x.text, nil, x.line, api.ErrSyntax)
	}
}

// P7.3: exactly MaxSource bytes are looked at; with one more, ErrLimit comes before all else, and no line beside it (7a).
func TestParseLongTexts(t *testing.T) {
	park := strings.Repeat("park 1\n", 4194304/7)
	for _, x := range []struct {
		what, text string
		line       int
		err        api.Errno
	}{
		{"letters without a line feed", strings.Repeat("x", 4194304), 1, api.ErrSyntax},
		{"one letter more", strings.Repeat("x", 4194305), 0, api.ErrLimit},
		{"line feeds", strings.Repeat("\n", 4194304), 1, api.ErrSyntax},
		{"one line feed more", strings.Repeat("\n", 4194305), 0, api.ErrLimit},
		{"blanks", strings.Repeat(" ", 4194304), 1, api.ErrSyntax},
		{"zeros", "park " + strings.Repeat("0", 4194298) + "\n", 1, api.ErrSyntax},
		{"digits", "park " + strings.Repeat("9", 4194298) + "\n", 1, api.ErrSyntax},
		{"blanks behind a number", "park 1" + strings.Repeat(" ", 4194297) + "\n", 1, api.ErrSyntax},
		{"right lines", park + "\n\n", 65537, api.ErrLimit},
		{"right lines and a byte more", park + "\n\n\n", 0, api.ErrLimit},
		{"a right line and a long one", "park 1\n" + strings.Repeat("park ", 838859) + "\n", 2, api.ErrSyntax},
		{"a right line, and a byte more", "park 1\n" + strings.Repeat("x", 4194298), 0, api.ErrLimit},
		{"twice as many bytes", park + park + "\n\n\n\n\n", 0, api.ErrLimit},
	} {
		checkParse(t, x.what, x.text, nil, x.line, x.err)
	}
}

// P7.3: MaxEvents events and one more, with wrong lines before and behind them.
func TestParseManyEvents(t *testing.T) {
	const many = 65536
	next := mixed(7)
	l := mixedEvents(many, next)
	text := plainText(l)
	checkParse(t, "MaxEvents events", text, l, 0, api.OK)
	short := plainText(l[:many-1])
	checkParse(t, "one event less", short, l[:many-1], 0, api.OK)
	for _, x := range []struct {
		what, text string
		line       int
		err        api.Errno
	}{
		{"one event more", text + "park 1\n", many + 1, api.ErrLimit},
		{"two events more", text + "park 1\npark 1\n", many + 1, api.ErrLimit},
		{"an event and a wrong line more", text + "park 1\npark\n", many + 1, api.ErrLimit},
		{"an event and a part of a line more", text + "park 1\npark 1", many + 1, api.ErrLimit},
		{"twice as many events", text + text, many + 1, api.ErrLimit},
		{"a wrong line more", text + "park\n", many + 1, api.ErrSyntax},
		{"an empty line more", text + "\n", many + 1, api.ErrSyntax},
		{"an event without a line feed more", text + "park 1", many + 1, api.ErrSyntax},
		{"a wrong line and an event more", text + "park\npark 1\n", many + 1, api.ErrSyntax},
		{"a wrong line before them", "park\n" + text, 1, api.ErrSyntax},
		{"a wrong line before one event more", "park\n" + text + "park 1\n", 1, api.ErrSyntax},
		{"a wrong line as the last of MaxEvents", short + "park\n", many, api.ErrSyntax},
		{"a wrong line before the last of MaxEvents", short + "park\npark 1\npark 1\n", many, api.ErrSyntax},
		{"a line too many without a line feed at the end", short + "park 1", many, api.ErrSyntax},
	} {
		checkParse(t, x.what, x.text, nil, x.line, x.err)
	}
}

// P7.3, as it is worded, for lines of each kind with a byte less, a byte more or another byte.
func TestParseChangedLines(t *testing.T) {
	check := func(text string) {
		t.Helper()
		l, n, e := plainParse(text)
		checkParse(t, short(text), text, l, n, e)
	}
	for text := range texts() {
		for i := range len(text) + 1 {
			for b := range 256 {
				c := string([]byte{byte(b)})
				check(text[:i] + c + text[i:])
				if i < len(text) {
					check(text[:i] + c + text[i+1:])
				}
			}
			if i < len(text) {
				check(text[:i] + text[i+1:])
				check(text[:i])
			}
			check(text[i:])
		}
	}
}

// P7.3, as it is worded, for texts that are put together of parts of lines.
func TestParseMixedTexts(t *testing.T) {
	next := mixed(73)
	parts := []string{" ", "\n", "0", "1", "256", "257", "00", "-1", "x", ""}
	for _, k := range kinds() {
		parts = append(parts, strings.Fields(templates()[k])[0])
	}
	for range 20000 {
		var b strings.Builder
		b.WriteString(plainText(mixedEvents(next(3), next)))
		for range next(3) {
			e := mixedEvents(1, next)[0]
			for i, part := range strings.Fields(plainLine(e)) {
				if next(12) == 0 {
					part = parts[next(len(parts))]
				}
				if i > 0 {
					b.WriteString(" ")
				}
				b.WriteString(part)
			}
			b.WriteString([]string{"\n", "\n", "\n", "", " "}[next(5)])
		}
		l, n, e := plainParse(b.String())
		checkParse(t, short(b.String()), b.String(), l, n, e)
	}
}

// P7.3: what Format writes is parsed as the same events, and a text that is parsed is the text of its events.
func TestThereAndBack(t *testing.T) {
	next := mixed(37)
	for n := range 300 {
		l := mixedEvents(n, next)
		text, err := event.Format(l)
		if err != api.OK {
			t.Fatalf("Format(%v): error %d", l, err)
		}
		checkParse(t, "what Format wrote", text, l, 0, api.OK)
		same := plainText(mixedEvents(n, next))
		parsed, line, err := event.Parse(same)
		if len(parsed) != n || line != 0 || err != api.OK {
			t.Fatalf("Parse(%q) = %v, %d, %d", same, parsed, line, err)
		}
		checkFormat(t, "what Parse read", parsed, same, api.OK)
	}
}

// anything returns events that are valid and such that are not.
func anything() []api.Event {
	return []api.Event{
		example(api.EvSteal), bad(), {}, {Kind: -1, Worker: -2, Task: -3, Other: -4, Level: -5},
		{Kind: math.MaxInt, Worker: math.MinInt, Task: math.MaxInt, Other: math.MinInt, Level: math.MaxInt}, example(api.EvPark), example(api.EvPark),
	}
}

// P7.4: Of for no stamped events, for several in an order that is not that of their numbers, and for events that are not valid.
func TestOf(t *testing.T) {
	if g := event.Of(nil); len(g) != 0 {
		t.Errorf("Of(nil) = %v", g)
	}
	if g := event.Of([]api.Stamped{}); len(g) != 0 {
		t.Errorf("Of of an empty list = %v", g)
	}
	want := append(examples(), anything()...)
	for n := range len(want) + 1 {
		var l []api.Stamped
		for i, e := range want[:n] {
			l = append(l, api.Stamped{At: []int{9, 3, 3, -1, math.MinInt, math.MaxInt, 0}[i%7], Event: e})
		}
		if g := event.Of(l); !slices.Equal(g, want[:n]) {
			t.Errorf("Of(%v) = %v, want %v", l, g, want[:n])
		}
	}
	many := make([]api.Stamped, 65537)
	many[65536].Event = example(api.EvAge)
	if g := event.Of(many); len(g) != 65537 || g[65536] != example(api.EvAge) {
		t.Errorf("Of more than MaxEvents stamped events: %d events", len(g))
	}
}

// P7.4: Tasks for the same number in several events, in other kinds, and for numbers of any size and sign.
func TestTasks(t *testing.T) {
	accept := func(task int) api.Event { return api.Event{Kind: api.EvAccept, Task: task} }
	spawn := func(task int) api.Event { return api.Event{Kind: api.EvSpawn, Task: task} }
	for _, x := range []struct {
		l    []api.Event
		want int
	}{
		{nil, 0},
		{[]api.Event{}, 0},
		{[]api.Event{accept(0)}, 1},
		{[]api.Event{spawn(0)}, 1},
		{[]api.Event{accept(3), accept(3)}, 1},
		{[]api.Event{spawn(3), spawn(3), spawn(3)}, 1},
		{[]api.Event{accept(3), spawn(3)}, 1},
		{[]api.Event{spawn(3), accept(4), spawn(4), accept(3)}, 2},
		{[]api.Event{accept(0), accept(1), spawn(2), accept(1), spawn(0)}, 3},
		// the other fields do not count
		{[]api.Event{{Kind: api.EvAccept, Worker: 1, Task: 2, Other: 3, Level: 4}, {Kind: api.EvSpawn, Worker: 5, Task: 2, Other: 6, Level: 7}}, 1},
		{[]api.Event{{Kind: api.EvAccept, Worker: 1, Task: 2, Other: 3, Level: 4}, {Kind: api.EvAccept, Worker: 1, Task: 3, Other: 3, Level: 4}}, 2},
		// a refused child has a number that nobody got
		{[]api.Event{accept(0), {Kind: api.EvRefuse, Task: 1}}, 1},
		{[]api.Event{{Kind: api.EvReject, Task: 1}}, 0},
		// numbers of any size and sign, such that differ in high bits alone among them
		{[]api.Event{accept(-1), spawn(-1), accept(257), accept(1), spawn(1 << 32), spawn(1<<32 + 1)}, 5},
		{[]api.Event{accept(math.MinInt), spawn(math.MaxInt), spawn(math.MinInt), accept(0)}, 3},
		{[]api.Event{accept(0), accept(256), spawn(512), spawn(1 << 16), accept(-256)}, 5},
	} {
		if g := event.Tasks(x.l); g != x.want {
			t.Errorf("Tasks(%v) = %d, want %d", x.l, g, x.want)
		}
	}
	for kind := -3; kind <= 40; kind++ {
		l := []api.Event{{Kind: kind, Task: 5}, {Kind: kind, Task: 6}, accept(5)}
		want := 1
		if kind == api.EvAccept || kind == api.EvSpawn {
			want = 2
		}
		if g := event.Tasks(l); g != want {
			t.Errorf("Tasks(%v) = %d, want %d", l, g, want)
		}
	}
}

// P7.4: many events, more than a text may have, and more tasks than a configuration may have.
func TestManyTasks(t *testing.T) {
	var l []api.Event
	for i := range 200000 {
		l = append(l, api.Event{Kind: []int{api.EvAccept, api.EvSpawn, api.EvStart}[i%3], Task: i / 3 % 50000})
	}
	if g := event.Tasks(l); g != 50000 {
		t.Errorf("Tasks of 50000 tasks = %d", g)
	}
}

// R2: equal calls give equal answers, whatever was called in between.
func TestEqualCalls(t *testing.T) {
	l := append(examples(), examples()...)
	text := plainText(l)
	for range 3 {
		checkFormat(t, "events", l, text, api.OK)
		checkFormat(t, "events that are not valid", anything(), "", api.ErrEvent)
		checkParse(t, "their text", text, l, 0, api.OK)
		checkParse(t, "their text without its end", text[:len(text)-1], nil, 38, api.ErrSyntax)
		if !event.Valid(l[0]) || event.Valid(bad()) {
			t.Error("Valid differs between equal calls")
		}
		if g := event.Tasks(l); g != 2 {
			t.Errorf("Tasks(%v) = %d, want 2", l, g)
		}
	}
}

// R3: no call changes what it is given, and results share no memory with it or with each other.
func TestListsStayApart(t *testing.T) {
	for _, l := range [][]api.Event{examples(), anything()} {
		same := slices.Clone(l)
		event.Format(l)
		event.Tasks(l)
		if !slices.Equal(l, same) {
			t.Errorf("a call changed its list to %v, want %v", l, same)
		}
	}
	var stamped []api.Stamped
	for i, e := range examples() {
		stamped = append(stamped, api.Stamped{At: i, Event: e})
	}
	same := slices.Clone(stamped)
	g, h := event.Of(stamped), event.Of(stamped)
	for i := range g {
		g[i] = bad()
	}
	if !slices.Equal(stamped, same) || !slices.Equal(h, examples()) {
		t.Error("a change of what Of returned changed its argument or another result")
	}
	clear(stamped)
	if !slices.Equal(h, examples()) {
		t.Error("a change of the argument of Of changed what it returned")
	}
	text := plainText(examples())
	p, _, _ := event.Parse(text)
	q, _, _ := event.Parse(text)
	clear(p)
	if !slices.Equal(q, examples()) {
		t.Error("a change of what Parse returned changed another result")
	}
	l := examples()
	written, _ := event.Format(l)
	clear(l)
	if written != text {
		t.Error("a change of the argument of Format changed what it returned")
	}
}

// The chapter's examples.
func TestExamples(t *testing.T) {
	checkFormat(t, "example 1", []api.Event{{Kind: api.EvStart, Worker: 0, Task: 3, Other: 0, Level: 0}}, "start 0 3\n", api.OK)
	checkParse(t, "example 2", "park 1", nil, 1, api.ErrSyntax)
}
