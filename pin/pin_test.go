package pin_test

import (
	"encoding/binary"
	"fmt"
	"maps"
	"math"
	"slices"
	"strconv"
	"strings"
	"testing"

	"sexton/api"
	"sexton/pin"
)

const (
	mostPins    = 50
	mostSession = 1000000
	mostAt      = 1000000000
)

// pins is a row written as `2@9 5@3`: of each one its Session, and its At.
func pins(s string) []api.Pin {
	var l []api.Pin
	for _, w := range strings.Fields(s) {
		session, at, _ := strings.Cut(w, "@")
		l = append(l, of(number(session), number(at)))
	}
	return l
}

func number(s string) int {
	n, err := strconv.Atoi(s)
	if err != nil {
		panic(err)
	}
	return n
}

func of(session, at int) api.Pin { return api.Pin{Session: session, At: at} }

func row(l ...api.Pin) []api.Pin { return l }

// many is n pins of every other Session from first on; no two of 101 that follow each other have one At.
func many(first, n int) []api.Pin {
	var l []api.Pin
	for i := range n {
		l = append(l, of(first+2*i, 7*i%101))
	}
	return l
}

func backwards(l []api.Pin) []api.Pin {
	l = slices.Clone(l)
	slices.Reverse(l)
	return l
}

// show cuts a long text so that a failure can be read.
func show(x any) string {
	s := fmt.Sprint(x)
	if len(s) > 300 {
		s = s[:300] + ".."
	}
	return s
}

// The document's words, told by other means than the program's.

func within(n, most int) bool { return 0 <= n && n <= most }

// isRight asks for a row as it would be if it rose, of each Session once.
func isRight(l []api.Pin) bool {
	held := map[int]int{}
	for _, p := range l {
		if !within(p.Session, mostSession) || !within(p.At, mostAt) {
			return false
		}
		held[p.Session] = p.At
	}
	return len(held) <= mostPins && slices.Equal(rising(held), l)
}

// rising is the pins of a map of Sessions, with the At of each one.
func rising(held map[int]int) []api.Pin {
	var l []api.Pin
	for _, s := range slices.Sorted(maps.Keys(held)) {
		l = append(l, of(s, held[s]))
	}
	return l
}

func heldBy(l []api.Pin) map[int]int {
	held := map[int]int{}
	for _, p := range backwards(l) { // of two the first one is laid over the other
		held[p.Session] = p.At
	}
	return held
}

func added(l []api.Pin, p api.Pin) ([]api.Pin, api.Errno) {
	held := heldBy(l)
	_, has := held[p.Session]
	switch {
	case !isRight(l), !isRight(row(p)):
		return nil, api.ErrArg
	case has:
		return nil, api.ErrHeld
	case len(l) == mostPins:
		return nil, api.ErrLimit
	}
	held[p.Session] = p.At
	return rising(held), api.OK
}

func dropped(l []api.Pin, session int) ([]api.Pin, api.Errno) {
	held := heldBy(l)
	_, has := held[session]
	switch {
	case !isRight(l):
		return nil, api.ErrArg
	case !has:
		return nil, api.ErrNone
	}
	delete(held, session)
	return rising(held), api.OK
}

func sortedAts(l []api.Pin) []int {
	var ats []int
	for _, p := range l {
		ats = append(ats, p.At)
	}
	slices.Sort(ats)
	return ats
}

// raised sorts what is asked for: of the limits the first one, of that and w the last one.
func raised(w, b, last int, l []api.Pin) int {
	limits := append([]int{b, last}, sortedAts(l)...)
	slices.Sort(limits)
	both := []int{w, limits[0]}
	slices.Sort(both)
	return both[1]
}

func checkIs(t *testing.T, l []api.Pin, want bool) {
	t.Helper()
	if is := pin.Is(l); is != want {
		t.Errorf("P17.1: Is of %s: %v; want %v", show(l), is, want)
	}
}

// told asks whether a call answered this row, or this error and no rows.
func told(m []api.Pin, e api.Errno, want []api.Pin, wantErr api.Errno) bool {
	return e == wantErr && slices.Equal(m, want) && (e == api.OK || m == nil)
}

func checkAdd(t *testing.T, l []api.Pin, p api.Pin, want []api.Pin, wantErr api.Errno) {
	t.Helper()
	if m, e := pin.Add(l, p); !told(m, e, want, wantErr) {
		t.Errorf("P17.1: Add of %v to %s: %s, %d; want %s, %d", p, show(l), show(m), e, show(want), wantErr)
	}
}

func checkDrop(t *testing.T, l []api.Pin, session int, want []api.Pin, wantErr api.Errno) {
	t.Helper()
	if m, e := pin.Drop(l, session); !told(m, e, want, wantErr) {
		t.Errorf("P17.1: Drop of %d from %s: %s, %d; want %s, %d", session, show(l), show(m), e, show(want), wantErr)
	}
}

func checkOf(t *testing.T, l []api.Pin, session, want int, wantOk bool) {
	t.Helper()
	if at, ok := pin.Of(l, session); at != want || ok != wantOk {
		t.Errorf("P17.1: Of of %d in %s: %d, %v; want %d, %v", session, show(l), at, ok, want, wantOk)
	}
}

func checkLeast(t *testing.T, l []api.Pin, want int, wantOk bool) {
	t.Helper()
	if at, ok := pin.Least(l); at != want || ok != wantOk {
		t.Errorf("P17.2: Least of %s: %d, %v; want %d, %v", show(l), at, ok, want, wantOk)
	}
}

func checkRaise(t *testing.T, w, b, last int, l []api.Pin, want int) {
	t.Helper()
	n := pin.Raise(w, b, last, l)
	if n != want {
		t.Errorf("P17.2: Raise of %d, %d, %d, %s: %d; want %d", w, b, last, show(l), n, want)
	}
	if n < w {
		t.Errorf("P17.3: Raise of %d, %d, %d, %s: %d: it is below %d", w, b, last, show(l), n, w)
	}
	for _, p := range l {
		if n > w && p.At < n {
			t.Errorf("P17.3: Raise of %d, %d, %d, %s: %d: the pin %v is below", w, b, last, show(l), n, p)
			break
		}
	}
}

// checkAll holds all calls of a row, a pin, and its Session against the document's words.
func checkAll(t *testing.T, l []api.Pin, p api.Pin) {
	t.Helper()
	checkIs(t, l, isRight(l))
	want, e := added(l, p)
	checkAdd(t, l, p, want, e)
	want, e = dropped(l, p.Session)
	checkDrop(t, l, p.Session, want, e)
	at, ok := heldBy(l)[p.Session]
	checkOf(t, l, p.Session, at, ok)
	if ats := sortedAts(l); len(ats) > 0 {
		checkLeast(t, l, ats[0], true)
	} else {
		checkLeast(t, l, 0, false)
	}
}

func TestExamples(t *testing.T) {
	one := row(of(5, 3))
	checkAdd(t, nil, of(5, 3), one, api.OK)
	checkAdd(t, one, of(5, 4), nil, api.ErrHeld)
	checkLeast(t, one, 3, true)
	checkRaise(t, 1, 9, 7, one, 3)
	checkRaise(t, 4, 9, 7, one, 4)
	checkRaise(t, 1, 9, 7, nil, 7)
}

func TestIsByHand(t *testing.T) {
	for s, want := range map[string]bool{
		"": true, "5@3": true, "0@0": true, "1000000@1000000000": true, "0@1000000000": true, "1000000@0": true, // none, one, and the edges
		"-1@3": false, "1000001@3": false, "5@-1": false, "5@1000000001": false, "-1@-1": false, "1000001@1000000001": false, "-1000000@3": false, "5@-1000000000": false,
		"4294967296@3": false, "5@4294967296": false, "-4294967296@3": false, "5@-4294967296": false, "4294967301@3": false, "5@4294967299": false, // such as are right in 32 bits
		"1@1 2@1": true, "1@9 2@1": true, "0@0 1000000@0": true, "2@1 1@1": false, "1@1 1@1": false, "1@1 1@2": false, "1@2 1@1": false, "0@0 0@0": false, "1000000@1 1000000@1": false, // two
		"1@1 2@2 3@3": true, "1@3 2@2 3@1": true, "1@1 3@1 2@1": false, "2@1 1@1 3@1": false, "3@1 2@1 1@1": false, "1@1 1@1 2@1": false, "1@1 2@1 2@1": false, "1@1 2@1 1@1": false, // three
		"-1@1 2@1 3@1": false, "1@1 -1@1 3@1": false, "1@1 2@1 1000001@1": false, "1@-1 2@1 3@1": false, "1@1 2@-1 3@1": false, "1@1 2@1 3@-1": false, // and a wrong one among right ones
		"1@1000000001 2@1 3@1": false, "1@1 2@1000000001 3@1": false, "1@1 2@1 3@1000000001": false,
	} {
		checkIs(t, pins(s), want)
	}
	checkIs(t, row(), true)
	for _, n := range []int{math.MinInt, math.MinInt32, math.MaxInt32, math.MaxInt64, math.MaxInt} {
		checkIs(t, row(of(n, 3)), false)
		checkIs(t, row(of(5, n)), false)
	}
}

func TestHowManyThereMayBe(t *testing.T) {
	for _, n := range []int{0, 1, 2, 48, 49, 50} {
		l := many(2, n)
		checkIs(t, l, true)
		checkIs(t, backwards(l), n < 2)
		for i := range l {
			for _, p := range []api.Pin{of(-1, 1), of(mostSession+1, 1), of(l[i].Session, -1), of(l[i].Session, mostAt+1), of(l[(i+1)%n].Session, 1)} {
				m := slices.Clone(l)
				m[i] = p
				checkIs(t, m, n == 1 && p == of(2, 1))
			}
		}
	}
	for _, n := range []int{51, 52, 100, 1000} {
		checkIs(t, many(2, n), false)
	}
}

func TestAddByHand(t *testing.T) {
	for _, c := range []struct{ l, p, want string }{
		{"", "5@3", "5@3"}, {"", "0@0", "0@0"}, {"", "1000000@1000000000", "1000000@1000000000"}, // to none
		{"5@3", "4@9", "4@9 5@3"}, {"5@3", "6@1", "5@3 6@1"}, {"5@3", "0@3", "0@3 5@3"}, {"5@3", "1000000@3", "5@3 1000000@3"}, // to one
		{"2@1 5@3 9@2", "0@7", "0@7 2@1 5@3 9@2"}, {"2@1 5@3 9@2", "1@7", "1@7 2@1 5@3 9@2"}, // ahead of all
		{"2@1 5@3 9@2", "3@7", "2@1 3@7 5@3 9@2"}, {"2@1 5@3 9@2", "4@7", "2@1 4@7 5@3 9@2"}, {"2@1 5@3 9@2", "6@0", "2@1 5@3 6@0 9@2"}, {"2@1 5@3 9@2", "8@1000000000", "2@1 5@3 8@1000000000 9@2"}, // between two
		{"2@1 5@3 9@2", "10@7", "2@1 5@3 9@2 10@7"}, {"2@1 5@3 9@2", "1000000@7", "2@1 5@3 9@2 1000000@7"}, // behind all
		{"0@1 2@1", "1@1", "0@1 1@1 2@1"}, {"999999@1 1000000@1", "999998@1", "999998@1 999999@1 1000000@1"},
	} {
		checkAdd(t, pins(c.l), pins(c.p)[0], pins(c.want), api.OK)
	}
	for _, p := range pins("2@1 2@0 5@3 5@4 9@1000000000") {
		checkAdd(t, pins("2@1 5@3 9@2"), p, nil, api.ErrHeld)
	}
	for _, p := range pins("-1@3 1000001@3 5@-1 5@1000000001 4294967296@3 5@4294967296 -4294967295@3") {
		checkAdd(t, nil, p, nil, api.ErrArg)
		checkAdd(t, pins("2@1 6@3 9@2"), p, nil, api.ErrArg)
	}
}

func TestDropByHand(t *testing.T) {
	for _, c := range []struct {
		l       string
		session int
		want    string
	}{
		{"5@3", 5, ""}, {"0@0", 0, ""}, {"1000000@1000000000", 1000000, ""}, // the only one
		{"2@1 5@3", 2, "5@3"}, {"2@1 5@3", 5, "2@1"},
		{"2@1 5@3 9@2", 2, "5@3 9@2"}, {"2@1 5@3 9@2", 5, "2@1 9@2"}, {"2@1 5@3 9@2", 9, "2@1 5@3"}, // the first, a middle and the last one
		{"0@1 1@1 2@1 3@1", 0, "1@1 2@1 3@1"}, {"0@1 1@1 2@1 3@1", 1, "0@1 2@1 3@1"}, {"0@1 1@1 2@1 3@1", 2, "0@1 1@1 3@1"}, {"0@1 1@1 2@1 3@1", 3, "0@1 1@1 2@1"},
	} {
		checkDrop(t, pins(c.l), c.session, pins(c.want), api.OK)
	}
	for _, s := range []int{0, 1, 3, 4, 6, 8, 10, 1000000, 1000001, -1, -2, -5, 1<<32 + 5, math.MinInt, math.MaxInt} {
		checkDrop(t, pins("2@1 5@3 9@2"), s, nil, api.ErrNone)
		checkDrop(t, nil, s, nil, api.ErrNone)
		checkDrop(t, row(), s, nil, api.ErrNone)
	}
}

func TestOfByHand(t *testing.T) {
	for _, c := range []struct {
		l       string
		session int
		at      int
		ok      bool
	}{
		{"", 5, 0, false}, {"", 0, 0, false}, {"5@3", 5, 3, true}, {"5@3", 4, 0, false}, {"5@3", 3, 0, false}, {"5@3", 6, 0, false}, {"5@3", 0, 0, false}, {"0@0", 0, 0, true}, {"5@0", 5, 0, true},
		{"2@1 5@3 9@2", 2, 1, true}, {"2@1 5@3 9@2", 5, 3, true}, {"2@1 5@3 9@2", 9, 2, true}, {"2@1 5@3 9@2", 1, 0, false}, {"2@1 5@3 9@2", 3, 0, false}, {"2@1 5@3 9@2", 10, 0, false}, {"2@1 5@3 9@2", -2, 0, false},
		{"0@5 1000000@1000000000", 1000000, 1000000000, true}, {"0@5 1000000@1000000000", 0, 5, true}, {"0@5 1000000@1000000000", 1000001, 0, false},
		// Rows that are not right: of two of one Session the first one is told, and any number is looked for.
		{"5@3 5@4", 5, 3, true}, {"5@4 5@3", 5, 4, true}, {"5@4 2@1 5@3", 5, 4, true}, {"2@1 5@4 5@3 5@2", 5, 4, true}, {"9@1 5@2 2@3 5@4", 5, 2, true}, {"9@1 5@2 2@3 5@4", 2, 3, true}, {"9@1 5@2 2@3 5@4", 9, 1, true}, {"9@1 5@2 2@3 5@4", 3, 0, false},
		{"5@-3 5@7", 5, -3, true}, {"-1@4", -1, 4, true}, {"-1@4", 1, 0, false}, {"1000001@1000000001", 1000001, 1000000001, true}, {"4294967301@3", 5, 0, false}, {"4294967301@3", 4294967301, 3, true},
	} {
		checkOf(t, pins(c.l), c.session, c.at, c.ok)
	}
	for _, n := range []int{50, 51, 1000} {
		l := many(2, n)
		for _, p := range l {
			checkOf(t, l, p.Session, p.At, true)
			checkOf(t, backwards(l), p.Session, p.At, true)
			checkOf(t, l, p.Session+1, 0, false)
		}
	}
	for _, n := range []int{math.MinInt, math.MaxInt} {
		checkOf(t, row(of(1, 1), of(n, n), of(n, 1)), n, n, true)
		checkOf(t, row(of(1, 1), of(0, n)), n, 0, false)
	}
}

// everyRow calls f with every row of at most n of these pins, in any order, with one or the other more than once.
func everyRow(from []api.Pin, n int, f func(l []api.Pin)) {
	rows := [][]api.Pin{nil}
	for i := range n + 1 {
		var more [][]api.Pin
		for _, l := range rows {
			f(l)
			for _, p := range from {
				more = append(more, append(slices.Clone(l), p))
			}
		}
		if i < n {
			rows = more
		}
	}
}

// crossed is a pin of each of these Sessions with each of these Ats.
func crossed(sessions, ats []int) []api.Pin {
	var l []api.Pin
	for _, s := range sessions {
		for _, at := range ats {
			l = append(l, of(s, at))
		}
	}
	return l
}

func TestEveryShortRow(t *testing.T) {
	edges := crossed([]int{-1, 0, 3, mostSession, mostSession + 1}, []int{-1, 0, mostAt, mostAt + 1})
	everyRow(edges, 2, func(l []api.Pin) {
		for _, p := range edges {
			checkAll(t, l, p)
		}
	})
	right := crossed([]int{0, 2, mostSession}, []int{1, 9})
	everyRow(right, 4, func(l []api.Pin) {
		for _, p := range append(right, pins("1@5 3@5 -1@5 2@-1")...) {
			checkAll(t, l, p)
		}
	})
}

// Every row that is right, of some few Sessions: all of them, with each place at which one may be added or dropped.
func TestEveryRowThatIsRight(t *testing.T) {
	for set := range 1 << 9 {
		held := map[int]int{}
		for s := range 9 {
			if set>>s&1 == 1 {
				held[s] = (s * 5) % 7
			}
		}
		l := rising(held)
		checkIs(t, l, true)
		for s := range 9 {
			checkAll(t, l, of(s, 3))
		}
	}
}

// Around 50: at each place one is added or dropped.
func TestManyPins(t *testing.T) {
	for _, n := range []int{48, 49, 50, 51} {
		l := many(2, n)
		for s := range 2*n + 4 {
			checkAll(t, l, of(s, 1))
		}
		for _, p := range pins("1000000@5 1000001@5 -1@5 1@-1 1@1000000001 2@-1") {
			checkAll(t, l, p)
		}
	}
	want := append(pins("1@8"), many(2, 49)...)
	checkAdd(t, many(2, 49), of(1, 8), want, api.OK)
	checkAdd(t, want, of(3, 8), nil, api.ErrLimit)
	checkDrop(t, want, 1, many(2, 49), api.OK)
	checkDrop(t, many(2, 50), 100, many(2, 49), api.OK)
	checkDrop(t, many(2, 51), 2, nil, api.ErrArg)
	checkAdd(t, many(2, 51), of(1, 8), nil, api.ErrArg)
}

// Where several refusals apply, the one is told that the document names first; besides it no rows are.
func TestRefusals(t *testing.T) {
	full := many(2, 50)
	checkAdd(t, full, of(1, 1), nil, api.ErrLimit)
	for i, p := range full {
		checkAdd(t, full, of(p.Session, 3), nil, api.ErrHeld) // ahead of ErrLimit
		checkAdd(t, full, p, nil, api.ErrHeld)
		checkAdd(t, full, of(p.Session, -1), nil, api.ErrArg) // ahead of both
		checkAdd(t, full[:i+1], of(p.Session, mostAt+1), nil, api.ErrArg)
	}
	odd := [][]api.Pin{
		pins("2@1 1@1"), pins("1@1 1@1"), pins("5@1 5@2"), pins("-1@1"), pins("-1@1 5@1"), pins("5@1 1000001@1"), pins("5@-1"), pins("1@1 5@1000000001"), pins("5@1 9@-1"),
		many(2, 51), many(5, 51), many(2, 1000), backwards(full), append(slices.Clone(full[:49]), of(mostSession+1, 1)), append(slices.Clone(full[:49]), full[48]),
	}
	for _, l := range odd {
		for _, p := range pins("0@1 5@1 1@1 3@1 7@7 -1@1 5@-1 1000001@1 5@1000000001") {
			checkAdd(t, l, p, nil, api.ErrArg) // whether the pin is right, or its Session has one
			checkDrop(t, l, p.Session, nil, api.ErrArg)
		}
	}
}

func TestLeastByHand(t *testing.T) {
	for _, c := range []struct {
		l    string
		want int
	}{
		{"5@3", 3}, {"5@0", 0}, {"0@7", 7}, {"5@1000000000", 1000000000},
		{"2@1 5@3 9@2", 1}, {"2@3 5@1 9@2", 1}, {"2@2 5@3 9@1", 1}, {"2@3 5@0 9@2", 0}, // the first, a middle and the last one
		{"2@4 5@4", 4}, {"2@4 5@9 6@4", 4}, {"2@9 5@4 6@4", 4}, {"2@4 5@4 6@4", 4}, // two of one At, and three
		// Any numbers, of rows that are not right as well.
		{"5@-3", -3}, {"2@1 5@-3 9@2", -3}, {"2@-1 5@-3 9@-2", -3}, {"2@-1 5@0", -1}, {"5@1000000001", 1000000001}, {"5@4294967296 6@4294967299", 4294967296}, {"5@4294967296 6@7", 7}, {"9@1 2@5 2@0 -1@3", 0},
	} {
		checkLeast(t, pins(c.l), c.want, true)
	}
	checkLeast(t, nil, 0, false)
	checkLeast(t, row(), 0, false)
	for _, n := range []int{math.MinInt, math.MaxInt} {
		checkLeast(t, row(of(1, n)), n, true)
		checkLeast(t, row(of(1, n), of(2, 0)), min(n, 0), true)
		checkLeast(t, row(of(1, math.MaxInt), of(2, math.MinInt), of(3, n)), math.MinInt, true)
	}
	// The least one at each place of rows of many.
	for _, n := range []int{2, 50, 51, 1000} {
		for i := range n {
			l := slices.Repeat(row(of(1, 9)), n)
			l[i].At = 8
			checkLeast(t, l, 8, true)
			checkRaise(t, 1, 10, 11, l, 8)
		}
	}
}

func TestRaiseByHand(t *testing.T) {
	for _, c := range []struct {
		w, b, last int
		l          string
		want       int
	}{
		{5, 4, 7, "1@8", 5}, {5, 7, 4, "1@8", 5}, {5, 8, 7, "1@4", 5}, {5, 3, 2, "1@4", 5}, // w decides
		{1, 4, 7, "1@8", 4}, {1, 7, 4, "1@8", 4}, {1, 8, 7, "1@4", 4}, {1, 8, 7, "1@9 2@4 3@6", 4}, // b, last and the least pin
		{4, 4, 7, "1@8", 4}, {4, 7, 4, "1@8", 4}, {4, 8, 7, "1@4", 4}, {1, 4, 4, "1@8", 4}, {1, 4, 7, "1@4", 4}, {1, 7, 4, "1@4", 4}, {4, 4, 4, "1@4", 4}, {8, 4, 4, "1@4", 8}, // two the same, and more
		{1, 9, 7, "", 7}, {1, 7, 9, "", 7}, {9, 7, 8, "", 9}, {7, 7, 7, "", 7}, {0, 0, 0, "", 0}, {0, 1, 1, "", 1}, // no pins
		{3, 0, 7, "", 3}, {3, 7, 0, "", 3}, {0, 7, 9, "1@0", 0}, {0, 0, 0, "1@5", 0}, // 0 is a number like others
		{-5, -3, -4, "", -4}, {-5, -4, -3, "", -4}, {-2, -4, -3, "", -2}, {-9, 7, 8, "1@-3", -3}, {-9, -4, 8, "1@-3", -4}, {-9, -4, -5, "1@-3", -5}, {-1, 7, 8, "1@-3", -1}, {-1, 0, 0, "", 0}, {-9, 1, 2, "1@3 2@-4", -4}, // below 0
		{1000000000, 1000000001, 1000000002, "1@1000000003", 1000000001}, {1, 4294967296, 4294967297, "1@4294967298", 4294967296}, {1, 4294967298, 4294967297, "1@4294967296", 4294967296}, {4294967296, 1, 2, "1@3", 4294967296},
		{1, 9, 7, "5@6 5@3 2@4", 3}, {1, 9, 7, "-1@3", 3}, {1, 9, 7, "1000001@1000000001", 7}, // rows that are not right
	} {
		checkRaise(t, c.w, c.b, c.last, pins(c.l), c.want)
	}
	checkRaise(t, 1, 9, 7, row(), 7)
}

// everyNumber is what w, b, last and the Ats are chosen of.
func everyNumber() []int {
	return []int{math.MinInt, math.MinInt + 1, -4294967297, -mostAt, -2, -1, 0, 1, 2, 3, mostAt, mostAt + 1, 1 << 31, 1 << 32, 1<<32 + 1, math.MaxInt - 1, math.MaxInt}
}

func TestRaiseOfEveryFourNumbers(t *testing.T) {
	l := everyNumber()
	for _, w := range l {
		for _, b := range l {
			for _, last := range l {
				checkRaise(t, w, b, last, nil, raised(w, b, last, nil))
				for i, at := range l {
					some := row(of(1, at), of(2, l[(i*5+3)%len(l)]), of(3, 7))
					for n := range len(some) {
						checkRaise(t, w, b, last, some[:n+1], raised(w, b, last, some[:n+1]))
					}
				}
			}
		}
	}
}

// state is the pins that there are, and those that there ought to be.
type state struct {
	l    []api.Pin
	held map[int]int
}

// add and drop go on to another state, and leave this one what it was.
func (s state) add(t *testing.T, p api.Pin) state {
	t.Helper()
	want, wantErr := added(s.l, p)
	m, e := pin.Add(s.l, p)
	if !told(m, e, want, wantErr) {
		t.Fatalf("P17.1: Add of %v to %s: %s, %d; want %s, %d", p, show(s.l), show(m), e, show(want), wantErr)
	}
	if e != api.OK {
		return s
	}
	held := maps.Clone(s.held)
	held[p.Session] = p.At
	return state{m, held}
}

func (s state) drop(t *testing.T, session int) state {
	t.Helper()
	want, wantErr := dropped(s.l, session)
	m, e := pin.Drop(s.l, session)
	if !told(m, e, want, wantErr) {
		t.Fatalf("P17.1: Drop of %d from %s: %s, %d; want %s, %d", session, show(s.l), show(m), e, show(want), wantErr)
	}
	if e != api.OK {
		return s
	}
	held := maps.Clone(s.held)
	delete(held, session)
	return state{m, held}
}

// check asks that each Session has the pin that was added and not yet dropped, and no other has one.
func (s state) check(t *testing.T, sessions []int) {
	t.Helper()
	if !pin.Is(s.l) || !slices.Equal(s.l, rising(s.held)) {
		t.Fatalf("P17.3: what was added and not dropped is %s; there are %s", show(s.held), show(s.l))
	}
	for _, x := range sessions {
		want, wantOk := s.held[x]
		if at, ok := pin.Of(s.l, x); at != want || ok != wantOk {
			t.Fatalf("P17.3: behind what was added and dropped Of of %d is %d, %v; want %d, %v", x, at, ok, want, wantOk)
		}
	}
}

func TestEveryShortRowOfCalls(t *testing.T) {
	sessions := []int{0, 5, mostSession, 6, -1, mostSession + 1}
	var goOn func(s state, left int)
	goOn = func(s state, left int) {
		s.check(t, sessions)
		if left == 0 {
			return
		}
		for _, p := range pins("0@7 0@3 5@0 1000000@1000000000 -1@3 5@-1") {
			goOn(s.add(t, p), left-1)
		}
		for _, x := range []int{0, 5, mostSession, -1} {
			goOn(s.drop(t, x), left-1)
		}
		s.check(t, sessions)
	}
	goOn(state{nil, map[int]int{}}, 4)
}

// Long rows of calls, up to 50 pins and on, down to none, and both by turns.
func TestLongRowsOfCalls(t *testing.T) {
	var sessions []int
	for i := range 61 {
		sessions = append(sessions, i)
	}
	for _, step := range []int{1, 2, 17, 60} { // 61 is a prime: each one goes through all Sessions
		s := state{nil, map[int]int{}}
		for i := range 61 {
			s = s.add(t, of(i*step%61, i))
			s.check(t, sessions)
		}
		if len(s.l) != mostPins {
			t.Fatalf("P17.1: of 61 that were added there are %d", len(s.l))
		}
		for i := range 300 {
			s = s.drop(t, i*7%61).add(t, of(i*step%61, 100+i))
			if i%3 == 0 {
				s = s.add(t, of(i*11%61, i)).drop(t, i*13%61)
			}
			s.check(t, sessions)
		}
		for i := range 61 {
			s = s.drop(t, i*step%61)
			s.check(t, sessions)
		}
		if len(s.l) != 0 {
			t.Fatalf("P17.1: of all that were dropped there are %s", show(s.l))
		}
	}
}

// What is added and dropped again leaves what there was, and so does the other way.
func TestThereAndBack(t *testing.T) {
	for _, n := range []int{0, 1, 2, 3, 49} {
		l := many(2, n)
		for x := range 2*n + 4 {
			m, e := pin.Add(l, of(x, 4))
			if e == api.OK {
				checkDrop(t, m, x, l, api.OK)
			}
			at, ok := pin.Of(l, x)
			if m, e = pin.Drop(l, x); ok != (e == api.OK) {
				t.Errorf("P17.1: Of of %d in %s: %v; Drop: %d", x, show(l), ok, e)
			}
			if e == api.OK {
				checkAdd(t, m, of(x, at), l, api.OK)
			}
		}
	}
}

// roomy is l with room behind the last one, which is nobody's to write to.
func roomy(l []api.Pin) []api.Pin {
	return append(slices.Clone(l), pins("71@71 72@72 73@73")...)[:len(l)]
}

// overwrite goes up to the end of the room behind the last one.
func overwrite(l []api.Pin) {
	l = l[:cap(l)]
	for i := range l {
		l[i] = of(999, -777)
	}
}

func someRows() [][]api.Pin {
	return [][]api.Pin{nil, row(), pins("5@3"), pins("2@1 5@3 9@2"), pins("9@1 5@2 2@3 5@4"), pins("-1@1 5@-3"), many(2, 49), many(2, 50), many(2, 51)}
}

// somePins stand, of one or the other row, ahead of all, between two and behind all, or are refused.
func somePins() []api.Pin { return pins("0@5 3@5 5@5 9@5 1000000@5 2@5 4@5 50@5 51@5 -1@5 5@-1") }

func TestRowsThatCameInAreAsTheyWere(t *testing.T) {
	for _, l := range someRows() {
		x := roomy(l)
		was := slices.Clone(x[:cap(x)])
		for _, p := range somePins() {
			m, _ := pin.Add(x, p)
			overwrite(m)
			m, _ = pin.Drop(x, p.Session)
			overwrite(m)
			pin.Is(x)
			pin.Of(x, p.Session)
			pin.Least(x)
			pin.Raise(1, 9, 7, x)
			if !slices.Equal(x[:cap(x)], was) {
				t.Fatalf("R2: behind calls of %s and %v it is %s", show(was), p, show(x[:cap(x)]))
			}
		}
	}
}

// everyAnswer is the rows that the calls tell of some row, and the numbers.
func everyAnswer(l []api.Pin) (rows [][]api.Pin, numbers string) {
	for _, p := range somePins() {
		m, e := pin.Add(l, p)
		n, f := pin.Drop(l, p.Session)
		at, ok := pin.Of(l, p.Session)
		rows = append(rows, m, n)
		numbers += fmt.Sprintln(e, f, at, ok, pin.Is(m), pin.Is(n), pin.Raise(-9, 9, 7, m), pin.Raise(-9, 9, 7, n))
	}
	at, ok := pin.Least(l)
	return rows, numbers + fmt.Sprintln(at, ok, pin.Is(l), pin.Raise(-9, 9, 7, l))
}

// What is told stands on its own: written over, it changes neither another answer nor what is told later.
func TestAnswersPlayNoPartInLaterCalls(t *testing.T) {
	for _, l := range someRows() {
		rows, numbers := everyAnswer(l)
		again, same := everyAnswer(l)
		rows = append(rows, again...)
		var was [][]api.Pin
		for _, m := range rows {
			was = append(was, slices.Clone(m))
		}
		for i, m := range rows {
			if !slices.Equal(m, was[i]) {
				t.Fatalf("R2: an answer changed with another: %s; want %s", show(m), show(was[i]))
			}
			overwrite(m)
		}
		again, later := everyAnswer(l)
		if numbers != same || numbers != later {
			t.Errorf("R2: of %s was told %s, then %s, and %s behind answers that were written over", show(l), numbers, same, later)
		}
		for i, m := range again {
			if !slices.Equal(m, was[i]) {
				t.Fatalf("R2: behind answers that were written over: %s; want %s", show(m), show(was[i]))
			}
		}
	}
}

// Neither is the row kept that came in: it may be written over.
func TestRowsThatCameInPlayNoPartInLaterCalls(t *testing.T) {
	for _, l := range someRows() {
		x := roomy(l)
		rows, numbers := everyAnswer(x)
		overwrite(x)
		everyAnswer(x)
		want, same := everyAnswer(l)
		if numbers != same || !slices.EqualFunc(rows, want, slices.Equal[[]api.Pin]) {
			t.Errorf("R2: of %s was told %s and %s; behind it %s and %s", show(l), show(rows), numbers, show(want), same)
		}
	}
}

// Each state that there was stays, whatever is gone on to from it.
func TestEarlierPinsStay(t *testing.T) {
	var all, was [][]api.Pin
	l := many(2, 40)
	for i := range 200 {
		all, was = append(all, l), append(was, slices.Clone(l))
		if m, e := pin.Add(l, of(i*7%101, i)); e == api.OK {
			l = m
		} else if m, e := pin.Drop(l, l[i%len(l)].Session); e == api.OK {
			l = m
		}
	}
	for i, m := range all {
		if !slices.Equal(m, was[i]) {
			t.Fatalf("R2: what was %s is %s behind later calls", show(was[i]), show(m))
		}
	}
}

func TestLongRows(t *testing.T) {
	l := many(-5, 1<<20)
	checkIs(t, l, false)
	checkAdd(t, l, of(2, 3), nil, api.ErrArg)
	checkDrop(t, l, 3, nil, api.ErrArg)
	last := l[len(l)-1]
	checkOf(t, l, last.Session, last.At, true)
	checkOf(t, l, last.Session+1, 0, false)
	checkLeast(t, l, 0, true)
	checkRaise(t, -1, 9, 7, l, 0)
	l[len(l)-1].At = -8
	checkLeast(t, l, -8, true)
	checkRaise(t, -9, 9, 7, l, -8)
}

// FuzzCalls makes a row of calls: of each one two bytes, whether it adds or drops, and the Session.
func FuzzCalls(f *testing.F) {
	f.Add([]byte{})
	f.Add([]byte{1, 5, 3, 5, 0, 5, 1, 2, 7, 0, 9, 255, 0, 254})
	f.Fuzz(func(t *testing.T, l []byte) {
		sessions := []int{-1, 0, 1, 2, 5, 254, 255, mostSession}
		s := state{nil, map[int]int{}}
		for l = l[:min(len(l), 400)]; len(l) >= 2; l = l[2:] {
			x := int(l[1]) - 1
			if l[0]%3 == 0 {
				s = s.drop(t, x)
			} else {
				s = s.add(t, of(x, int(l[0])-2))
			}
			s.check(t, append(sessions, x))
		}
	})
}

// FuzzRow makes a row of any numbers, of each pin 16 bytes.
func FuzzRow(f *testing.F) {
	f.Add([]byte{}, 1, 9, 7, 5)
	f.Add([]byte("\x00\x00\x00\x00\x00\x00\x00\x05\x00\x00\x00\x00\x00\x00\x00\x03"), 1, 9, 7, 5)
	f.Add([]byte("\x00\x00\x00\x00\x00\x00\x00\x05\xff\xff\xff\xff\xff\xff\xff\xff"), -4, math.MaxInt, math.MinInt, 5)
	f.Fuzz(func(t *testing.T, s []byte, w, b, last, session int) {
		var l []api.Pin
		for ; len(s) >= 16; s = s[16:] {
			l = append(l, of(int(binary.BigEndian.Uint64(s)), int(binary.BigEndian.Uint64(s[8:]))))
		}
		checkAll(t, l, of(session, w))
		checkAll(t, l, of(session, b))
		checkRaise(t, w, b, last, l, raised(w, b, last, l))
	})
}
