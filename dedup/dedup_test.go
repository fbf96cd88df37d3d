package dedup_test

import (
	"encoding/binary"
	"fmt"
	"maps"
	"math"
	"slices"
	"strconv"
	"strings"
	"testing"

	"sexton/api"
	"sexton/dedup"
)

const (
	mostRows   = 50
	mostClient = 1000000
	mostSeq    = 1000000000
	mostCode   = 1000
	mostN      = 1000000000
)

// rows is a row written as `2@1=0,8 5@3=20,7`: of each one its Client, its Seq, and its reply's Code and N.
func rows(s string) []api.Seen {
	var l []api.Seen
	for _, w := range strings.Fields(s) {
		client, w, _ := strings.Cut(w, "@")
		seq, w, _ := strings.Cut(w, "=")
		code, n, _ := strings.Cut(w, ",")
		l = append(l, of(number(client), number(seq), number(code), number(n)))
	}
	return l
}

func number(s string) int {
	n, err := strconv.Atoi(s)
	if err != nil {
		panic(err)
	}
	return n
}

func of(client, seq, code, n int) api.Seen {
	return api.Seen{Client: client, Seq: seq, Reply: reply(code, n)}
}

func reply(code, n int) api.Reply { return api.Reply{Code: api.Errno(code), N: n} }

func row(l ...api.Seen) []api.Seen { return l }

// many is n rows of every other Client from first on; no two of 101 that follow each other have one Seq, or one reply.
func many(first, n int) []api.Seen {
	var l []api.Seen
	for i := range n {
		l = append(l, of(first+2*i, 1+7*i%101, i*11%101, i*13%101))
	}
	return l
}

func backwards(l []api.Seen) []api.Seen {
	l = slices.Clone(l)
	slices.Reverse(l)
	return l
}

// show cuts a long text so that a failure can be read.
func show(x any) string {
	s := fmt.Sprint(x)
	if len(s) > 300 {
		s = s[:300] + ".."
	}
	return s
}

// The document's words, told by other means than the program's.

func within(n, least, most int) bool { return min(max(n, least), most) == n }

// isRight asks for a row as it would be if it rose, of each Client once.
func isRight(l []api.Seen) bool {
	kept := map[int]api.Seen{}
	for _, s := range l {
		if !within(s.Client, 0, mostClient) || !within(s.Seq, 1, mostSeq) || !within(int(s.Reply.Code), 0, mostCode) || !within(s.Reply.N, 0, mostN) {
			return false
		}
		kept[s.Client] = s
	}
	return len(kept) <= mostRows && slices.Equal(rising(kept), l)
}

// rising is what a map of Clients has.
func rising(kept map[int]api.Seen) []api.Seen {
	var l []api.Seen
	for _, c := range slices.Sorted(maps.Keys(kept)) {
		l = append(l, kept[c])
	}
	return l
}

func keptIn(l []api.Seen) map[int]api.Seen {
	kept := map[int]api.Seen{}
	for _, s := range backwards(l) { // of two the first one is laid over the other
		kept[s.Client] = s
	}
	return kept
}

func looked(l []api.Seen, client, seq int) (api.Reply, int) {
	s := keptIn(l)[client] // zero, if there is none
	if s.Seq == seq {
		return s.Reply, 1
	}
	if max(s.Seq, seq) == seq {
		return api.Reply{}, 0
	}
	return api.Reply{}, 2
}

func put(l []api.Seen, s api.Seen) ([]api.Seen, api.Errno) {
	kept := keptIn(l)
	was, has := kept[s.Client]
	switch {
	case !isRight(l), !isRight(row(s)):
		return nil, api.ErrArg
	case has && s.Seq <= was.Seq:
		return nil, api.ErrOld
	case !has && len(l) == mostRows:
		return nil, api.ErrLimit
	}
	kept[s.Client] = s
	return rising(kept), api.OK
}

func checkIs(t *testing.T, l []api.Seen, want bool) {
	t.Helper()
	if is := dedup.Is(l); is != want {
		t.Errorf("P19.1: Is of %s: %v; want %v", show(l), is, want)
	}
}

func checkLast(t *testing.T, l []api.Seen, client, want int) {
	t.Helper()
	if n := dedup.Last(l, client); n != want {
		t.Errorf("P19.1: Last of %d in %s: %d; want %d", client, show(l), n, want)
	}
}

func checkLook(t *testing.T, l []api.Seen, client, seq int, want api.Reply, wantKind int) {
	t.Helper()
	if r, kind := dedup.Look(l, client, seq); r != want || kind != wantKind {
		t.Errorf("P19.1: Look of %d at %d in %s: %v, %d; want %v, %d", client, seq, show(l), r, kind, want, wantKind)
	}
}

// told asks whether a call answered this row, or this error and no rows.
func told(m []api.Seen, e api.Errno, want []api.Seen, wantErr api.Errno) bool {
	return e == wantErr && slices.Equal(m, want) && (e == api.OK || m == nil)
}

func checkPut(t *testing.T, l []api.Seen, s api.Seen, want []api.Seen, wantErr api.Errno) {
	t.Helper()
	if m, e := dedup.Put(l, s); !told(m, e, want, wantErr) {
		t.Errorf("P19.2: Put of %v to %s: %s, %d; want %s, %d", s, show(l), show(m), e, show(want), wantErr)
	}
}

// checkAll holds all calls of a row, one to be put, and its Client, against the document's words.
func checkAll(t *testing.T, l []api.Seen, s api.Seen) {
	t.Helper()
	checkIs(t, l, isRight(l))
	last := keptIn(l)[s.Client].Seq
	checkLast(t, l, s.Client, last)
	for _, seq := range []int{s.Seq, last - 1, last, last + 1, 0, math.MinInt, math.MaxInt} {
		r, kind := looked(l, s.Client, seq)
		checkLook(t, l, s.Client, seq, r, kind)
	}
	want, e := put(l, s)
	checkPut(t, l, s, want, e)
}

func TestExamples(t *testing.T) {
	l := row(of(5, 3, 0, 7))
	checkLook(t, l, 5, 4, api.Reply{}, 0)
	checkLook(t, l, 5, 3, reply(0, 7), 1)
	checkLook(t, l, 5, 2, api.Reply{}, 2)
	checkLook(t, l, 6, 1, api.Reply{}, 0)
}

func TestIsByHand(t *testing.T) {
	for s, want := range map[string]bool{
		"": true, "5@3=0,7": true, "0@1=0,0": true, "1000000@1000000000=1000,1000000000": true, // none, one, and the edges
		"0@3=1,7": true, "1000000@3=1,7": true, "5@1=1,7": true, "5@1000000000=1,7": true, "5@3=0,0": true, "5@3=1000,7": true, "5@3=1,0": true, "5@3=1,1000000000": true,
		"-1@3=1,7": false, "1000001@3=1,7": false, "5@0=1,7": false, "5@-1=1,7": false, "5@1000000001=1,7": false, "5@3=-1,7": false, "5@3=1001,7": false, "5@3=1,-1": false, "5@3=1,1000000001": false,
		"-1000000@3=1,7": false, "5@-1000000000=1,7": false, "5@3=-1000,7": false, "5@3=1,-1000000000": false, "-1@0=-1,-1": false, "1000001@1000000001=1001,1000000001": false,
		"4294967296@3=1,7": false, "5@4294967297=1,7": false, "5@3=4294967296,7": false, "5@3=1,4294967296": false, "4294967301@3=1,7": false, "-4294967291@3=1,7": false, "5@-4294967293=1,7": false, "5@3=-4294967295,7": false, "5@3=1,-4294967289": false, // such as are right in 32 bits
		"1@1=0,0 2@1=0,0": true, "1@9=0,0 2@1=0,0": true, "1@1=0,9 2@1=0,1": true, "1@1=9,0 2@1=1,0": true, "0@1=0,0 1000000@1=0,0": true, "999999@1=0,0 1000000@1=0,0": true, // two that rise
		"2@1=0,0 1@1=0,0": false, "2@1=0,0 1@9=0,0": false, "1000000@1=0,0 0@1=0,0": false, // that fall
		"1@1=0,0 1@1=0,0": false, "1@1=0,0 1@2=0,0": false, "1@2=0,0 1@1=0,0": false, "1@1=0,0 1@1=0,1": false, "1@1=0,0 1@1=1,0": false, "0@1=0,0 0@1=0,0": false, "1000000@1=0,0 1000000@1=0,0": false, // of one Client
		"1@1=0,0 2@2=0,0 3@3=0,0": true, "1@3=0,0 2@2=0,0 3@1=0,0": true, "1@1=0,0 3@1=0,0 2@1=0,0": false, "2@1=0,0 1@1=0,0 3@1=0,0": false, "3@1=0,0 2@1=0,0 1@1=0,0": false, "1@1=0,0 1@1=0,0 2@1=0,0": false, "1@1=0,0 2@1=0,0 2@1=0,0": false, "1@1=0,0 2@1=0,0 1@1=0,0": false, // three
		"-1@1=0,0 2@1=0,0 3@1=0,0": false, "1@1=0,0 2@1=0,0 1000001@1=0,0": false, "1@0=0,0 2@1=0,0 3@1=0,0": false, "1@1=0,0 2@0=0,0 3@1=0,0": false, "1@1=0,0 2@1=0,0 3@0=0,0": false, // and a wrong one among right ones
		"1@1=-1,0 2@1=0,0 3@1=0,0": false, "1@1=0,0 2@1=1001,0 3@1=0,0": false, "1@1=0,0 2@1=0,0 3@1=1001,0": false, "1@1=0,-1 2@1=0,0 3@1=0,0": false, "1@1=0,0 2@1=0,1000000001 3@1=0,0": false, "1@1=0,0 2@1=0,0 3@1=0,-1": false,
	} {
		checkIs(t, rows(s), want)
	}
	checkIs(t, row(), true)
	for _, n := range []int{math.MinInt, math.MinInt32, math.MaxInt32, math.MaxInt64, math.MaxInt} {
		for _, s := range row(of(n, 3, 1, 7), of(5, n, 1, 7), of(5, 3, n, 7), of(5, 3, 1, n)) {
			checkIs(t, row(s), false)
			checkPut(t, nil, s, nil, api.ErrArg)
		}
	}
}

func TestHowManyThereMayBe(t *testing.T) {
	for _, n := range []int{0, 1, 2, 48, 49, 50} {
		l := many(2, n)
		checkIs(t, l, true)
		checkIs(t, backwards(l), n < 2)
		for i := range l {
			c := l[i].Client
			for _, s := range row(of(-1, 1, 0, 0), of(mostClient+1, 1, 0, 0), of(c, 0, 0, 0), of(c, mostSeq+1, 0, 0), of(c, 1, -1, 0), of(c, 1, mostCode+1, 0), of(c, 1, 0, -1), of(c, 1, 0, mostN+1), of(l[(i+1)%n].Client, 1, 0, 0)) {
				m := slices.Clone(l)
				m[i] = s
				checkIs(t, m, n == 1 && s == of(2, 1, 0, 0))
			}
		}
	}
	for _, n := range []int{51, 52, 100, 1000} {
		checkIs(t, many(2, n), false)
	}
}

func TestLastByHand(t *testing.T) {
	for _, c := range []struct {
		l            string
		client, want int
	}{
		{"", 5, 0}, {"", 0, 0}, {"5@3=0,7", 5, 3}, {"5@3=0,7", 4, 0}, {"5@3=0,7", 3, 0}, {"5@3=0,7", 7, 0}, {"5@3=0,7", 6, 0}, {"5@3=0,7", 0, 0}, {"5@3=0,7", -5, 0}, {"0@1=0,0", 0, 1}, {"0@1=0,0", 1, 0},
		{"2@1=0,8 5@3=0,7 9@2=0,6", 2, 1}, {"2@1=0,8 5@3=0,7 9@2=0,6", 5, 3}, {"2@1=0,8 5@3=0,7 9@2=0,6", 9, 2}, {"2@1=0,8 5@3=0,7 9@2=0,6", 1, 0}, {"2@1=0,8 5@3=0,7 9@2=0,6", 3, 0}, {"2@1=0,8 5@3=0,7 9@2=0,6", 6, 0}, {"2@1=0,8 5@3=0,7 9@2=0,6", 10, 0}, {"2@1=0,8 5@3=0,7 9@2=0,6", -2, 0},
		{"0@5=0,0 1000000@1000000000=0,0", 1000000, 1000000000}, {"0@5=0,0 1000000@1000000000=0,0", 0, 5}, {"0@5=0,0 1000000@1000000000=0,0", 1000001, 0}, {"0@5=0,0 1000000@1000000000=0,0", -1, 0},
		// Rows that are not right: of two of one Client the first one counts, and any number is looked for.
		{"5@3=0,0 5@4=0,0", 5, 3}, {"5@4=0,0 5@3=0,0", 5, 4}, {"5@4=0,0 2@1=0,0 5@3=0,0", 5, 4}, {"2@1=0,0 5@4=0,0 5@9=0,0 5@2=0,0", 5, 4}, {"9@1=0,0 5@2=0,0 2@3=0,0 5@4=0,0", 5, 2}, {"9@1=0,0 5@2=0,0 2@3=0,0 5@4=0,0", 2, 3}, {"9@1=0,0 5@2=0,0 2@3=0,0 5@4=0,0", 9, 1}, {"9@1=0,0 5@2=0,0 2@3=0,0 5@4=0,0", 3, 0},
		{"5@0=0,0 5@7=0,0", 5, 0}, {"5@-3=0,0 5@7=0,0", 5, -3}, {"-1@4=0,0", -1, 4}, {"-1@4=0,0", 1, 0}, {"1000001@1000000001=-1,-1", 1000001, 1000000001}, {"4294967301@3=0,0", 5, 0}, {"4294967301@3=0,0", 4294967301, 3}, {"5@3=0,0", 4294967301, 0},
	} {
		checkLast(t, rows(c.l), c.client, c.want)
	}
	checkLast(t, row(), 5, 0)
	for _, n := range []int{50, 51, 1000} {
		l := many(2, n)
		for _, s := range l {
			checkLast(t, l, s.Client, s.Seq)
			checkLast(t, backwards(l), s.Client, s.Seq)
			checkLast(t, l, s.Client+1, 0)
		}
	}
	for _, n := range []int{math.MinInt, math.MaxInt} {
		checkLast(t, row(of(1, 1, 0, 0), of(n, n, 0, 0), of(n, 1, 0, 0)), n, n)
		checkLast(t, row(of(1, 1, 0, 0), of(0, n, 0, 0)), n, 0)
	}
}

func TestLookByHand(t *testing.T) {
	three := "2@1=20,8 5@3=0,7 9@1000000000=1000,1000000000"
	for _, c := range []struct {
		l           string
		client, seq int
		want        api.Reply
		kind        int
	}{
		{"", 5, 1, reply(0, 0), 0}, {"", 5, 0, reply(0, 0), 1}, {"", 5, -1, reply(0, 0), 2}, {"", 0, 1000000001, reply(0, 0), 0}, {"", 0, 0, reply(0, 0), 1}, {"", -1, 0, reply(0, 0), 1}, {"", 1000001, -5, reply(0, 0), 2}, // of no rows
		{three, 5, 4, reply(0, 0), 0}, {three, 5, 3, reply(0, 7), 1}, {three, 5, 2, reply(0, 0), 2}, {three, 5, 1, reply(0, 0), 2}, {three, 5, 0, reply(0, 0), 2}, {three, 5, -3, reply(0, 0), 2}, {three, 5, 1000000000, reply(0, 0), 0}, // of a middle one
		{three, 2, 2, reply(0, 0), 0}, {three, 2, 1, reply(20, 8), 1}, {three, 2, 0, reply(0, 0), 2}, {three, 2, -1, reply(0, 0), 2}, {three, 2, 3, reply(0, 0), 0}, // of the first one
		{three, 9, 1000000001, reply(0, 0), 0}, {three, 9, 1000000000, reply(1000, 1000000000), 1}, {three, 9, 999999999, reply(0, 0), 2}, {three, 9, 1, reply(0, 0), 2}, {three, 9, 3, reply(0, 0), 2}, // of the last one
		{three, 1, 1, reply(0, 0), 0}, {three, 3, 1, reply(0, 0), 0}, {three, 7, 1, reply(0, 0), 0}, {three, 10, 1, reply(0, 0), 0}, {three, 3, 3, reply(0, 0), 0}, {three, 3, 0, reply(0, 0), 1}, {three, 10, 0, reply(0, 0), 1}, {three, 1, 0, reply(0, 0), 1}, {three, 3, -1, reply(0, 0), 2}, {three, 10, -1, reply(0, 0), 2}, {three, -5, 3, reply(0, 0), 0}, // of one that is none of them
		{three, 4294967301, 3, reply(0, 0), 0}, {three, 5, 4294967299, reply(0, 0), 0}, {three, 5, -4294967293, reply(0, 0), 2}, // in 32 bits it would be another one
		// Rows that are not right: of two of one Client the first one counts, and what it says is told as it stands.
		{"5@3=1,2 5@4=3,4", 5, 5, reply(0, 0), 0}, {"5@3=1,2 5@4=3,4", 5, 4, reply(0, 0), 0}, {"5@3=1,2 5@4=3,4", 5, 3, reply(1, 2), 1}, {"5@3=1,2 5@4=3,4", 5, 2, reply(0, 0), 2}, {"5@3=1,2 5@3=3,4", 5, 3, reply(1, 2), 1},
		{"9@1=1,2 5@4=3,4 2@3=5,6 5@3=7,8", 5, 4, reply(3, 4), 1}, {"9@1=1,2 5@4=3,4 2@3=5,6 5@3=7,8", 5, 3, reply(0, 0), 2}, {"9@1=1,2 5@4=3,4 2@3=5,6 5@3=7,8", 2, 3, reply(5, 6), 1}, {"9@1=1,2 5@4=3,4 2@3=5,6 5@3=7,8", 9, 1, reply(1, 2), 1},
		{"5@0=1,2", 5, 0, reply(1, 2), 1}, {"5@0=1,2", 5, 1, reply(0, 0), 0}, {"5@0=1,2", 5, -1, reply(0, 0), 2}, {"5@-3=1,2", 5, -2, reply(0, 0), 0}, {"5@-3=1,2", 5, 0, reply(0, 0), 0}, {"5@-3=1,2", 5, -3, reply(1, 2), 1}, {"5@-3=1,2", 5, -4, reply(0, 0), 2},
		{"-1@4=-1,-2", -1, 4, reply(-1, -2), 1}, {"1000001@1000000001=1001,1000000001", 1000001, 1000000001, reply(1001, 1000000001), 1}, {"1000001@1000000001=1001,1000000001", 1000001, 1000000002, reply(0, 0), 0},
	} {
		checkLook(t, rows(c.l), c.client, c.seq, c.want, c.kind)
	}
	low, high := math.MinInt, math.MaxInt
	for _, n := range []int{low, high} {
		l := row(of(n, low, 1, 2), of(5, high, 3, 4), of(5, low, 5, 6))
		checkLook(t, l, n, low, reply(1, 2), 1)
		checkLook(t, l, n, low+1, api.Reply{}, 0)
		checkLook(t, l, n, high, api.Reply{}, 0)
		checkLook(t, l, 5, high, reply(3, 4), 1)
		checkLook(t, l, 5, high-1, api.Reply{}, 2)
		checkLook(t, l, 5, low, api.Reply{}, 2)
		checkLook(t, l, 5, -1, api.Reply{}, 2)
		checkLook(t, l, 6, low, api.Reply{}, 2)
		checkLook(t, l, 6, high, api.Reply{}, 0)
	}
}

func TestPutByHand(t *testing.T) {
	three := "2@1=0,8 5@3=0,7 9@2=0,6"
	for _, c := range []struct{ l, s, want string }{
		{"", "5@3=0,7", "5@3=0,7"}, {"", "0@1=0,0", "0@1=0,0"}, {"", "1000000@1000000000=1000,1000000000", "1000000@1000000000=1000,1000000000"}, // to none
		{"5@3=0,7", "4@9=1,2", "4@9=1,2 5@3=0,7"}, {"5@3=0,7", "6@1=1,2", "5@3=0,7 6@1=1,2"}, {"5@3=0,7", "0@3=0,7", "0@3=0,7 5@3=0,7"}, {"5@3=0,7", "1000000@3=0,7", "5@3=0,7 1000000@3=0,7"}, {"5@3=0,7", "5@4=1,2", "5@4=1,2"}, // to one
		{three, "0@7=1,2", "0@7=1,2 2@1=0,8 5@3=0,7 9@2=0,6"}, {three, "1@7=1,2", "1@7=1,2 2@1=0,8 5@3=0,7 9@2=0,6"}, // ahead of all
		{three, "3@7=1,2", "2@1=0,8 3@7=1,2 5@3=0,7 9@2=0,6"}, {three, "4@7=1,2", "2@1=0,8 4@7=1,2 5@3=0,7 9@2=0,6"}, {three, "6@1=1,2", "2@1=0,8 5@3=0,7 6@1=1,2 9@2=0,6"}, {three, "8@1000000000=1,2", "2@1=0,8 5@3=0,7 8@1000000000=1,2 9@2=0,6"}, // between two
		{three, "10@7=1,2", "2@1=0,8 5@3=0,7 9@2=0,6 10@7=1,2"}, {three, "1000000@1=1,2", "2@1=0,8 5@3=0,7 9@2=0,6 1000000@1=1,2"}, // behind all
		{three, "2@2=1,2", "2@2=1,2 5@3=0,7 9@2=0,6"}, {three, "5@4=1,2", "2@1=0,8 5@4=1,2 9@2=0,6"}, {three, "9@3=1,2", "2@1=0,8 5@3=0,7 9@3=1,2"}, {three, "5@1000000000=1,2", "2@1=0,8 5@1000000000=1,2 9@2=0,6"}, {three, "5@4=0,7", "2@1=0,8 5@4=0,7 9@2=0,6"}, {three, "5@4=0,0", "2@1=0,8 5@4=0,0 9@2=0,6"}, // one that is there
		{"0@1=0,0 2@1=0,0", "1@1=0,0", "0@1=0,0 1@1=0,0 2@1=0,0"}, {"999999@1=0,0 1000000@1=0,0", "999998@1=0,0", "999998@1=0,0 999999@1=0,0 1000000@1=0,0"}, {"5@999999999=0,0", "5@1000000000=0,0", "5@1000000000=0,0"},
	} {
		checkPut(t, rows(c.l), rows(c.s)[0], rows(c.want), api.OK)
	}
	// The same Seq, one less, and far less; whatever the reply is.
	for _, s := range rows("2@1=0,8 2@1=0,9 5@3=0,7 5@3=20,9 5@2=0,7 5@1=0,7 9@2=0,6 9@1=0,6") {
		checkPut(t, rows(three), s, nil, api.ErrOld)
	}
	for _, s := range rows("5@1000000000=0,7 5@999999999=0,7 5@1=0,7") {
		checkPut(t, rows("5@1000000000=0,7"), s, nil, api.ErrOld)
	}
	for _, s := range rows("-1@4=0,0 1000001@4=0,0 5@0=0,0 5@-1=0,0 5@1000000001=0,0 5@4=-1,0 5@4=1001,0 5@4=0,-1 5@4=0,1000000001 4294967301@4=0,0 5@4294967300=0,0 5@4=4294967296,0 5@4=0,4294967296 -4294967291@4=0,0") {
		checkPut(t, nil, s, nil, api.ErrArg)
		checkPut(t, rows(three), s, nil, api.ErrArg)
		checkPut(t, rows("2@1=0,8 6@3=0,7"), s, nil, api.ErrArg)
	}
}

// everyRow calls f with every row of at most n of these, in any order, with one or the other more than once.
func everyRow(from []api.Seen, n int, f func(l []api.Seen)) {
	all := [][]api.Seen{nil}
	for i := range n + 1 {
		var more [][]api.Seen
		for _, l := range all {
			f(l)
			for _, s := range from {
				more = append(more, append(slices.Clone(l), s))
			}
		}
		if i < n {
			all = more
		}
	}
}

// crossed is one of each of these Clients with each of these Seqs; no two of one reply.
func crossed(clients, seqs []int) []api.Seen {
	var l []api.Seen
	for _, c := range clients {
		for _, seq := range seqs {
			l = append(l, of(c, seq, len(l)%7, len(l)))
		}
	}
	return l
}

func TestEveryShortRow(t *testing.T) {
	edges := crossed([]int{-1, 0, 3, mostClient, mostClient + 1}, []int{0, 1, mostSeq, mostSeq + 1})
	edges = append(edges, rows("3@2=-1,0 3@2=0,0 3@2=1000,1000000000 3@2=1001,0 3@2=0,-1 3@2=0,1000000001")...)
	everyRow(edges, 2, func(l []api.Seen) {
		for _, s := range edges {
			checkAll(t, l, s)
		}
	})
	right := crossed([]int{0, 2, mostClient}, []int{1, 9})
	everyRow(right, 4, func(l []api.Seen) {
		for _, s := range append(right, rows("1@5=0,0 3@5=0,0 2@8=0,0 2@10=0,0 -1@5=0,0 2@0=0,0")...) {
			checkAll(t, l, s)
		}
	})
}

// Every row that is right, of some few Clients: all of them, with each place at which one may be put.
func TestEveryRowThatIsRight(t *testing.T) {
	for set := range 1 << 9 {
		kept := map[int]api.Seen{}
		for c := range 9 {
			if set>>c&1 == 1 {
				kept[c] = of(c, 1+c*5%7, c, 10+c)
			}
		}
		l := rising(kept)
		checkIs(t, l, true)
		for c := range 9 {
			for _, seq := range []int{1, 4, 8} {
				checkAll(t, l, of(c, seq, 3, 3))
			}
		}
	}
}

// Around 50: at each place one is put, ahead of those that are there, between two, behind all, and in the place of one.
func TestManyRows(t *testing.T) {
	for _, n := range []int{48, 49, 50, 51} {
		l := many(2, n)
		for c := range 2*n + 4 {
			for _, seq := range []int{1, 50, 102} {
				checkAll(t, l, of(c, seq, 3, 3))
			}
		}
		for _, s := range rows("1000000@5=0,0 1000001@5=0,0 -1@5=0,0 1@0=0,0 1@1000000001=0,0 2@0=0,0 2@102=0,-1 2@102=1001,0") {
			checkAll(t, l, s)
		}
	}
	full := append(rows("1@8=0,5"), many(2, 49)...)
	checkPut(t, many(2, 49), of(1, 8, 0, 5), full, api.OK)
	checkPut(t, full, of(1, 9, 0, 6), append(rows("1@9=0,6"), many(2, 49)...), api.OK)
	checkPut(t, full, of(98, 102, 0, 6), append(slices.Clone(full[:49]), of(98, 102, 0, 6)), api.OK)
	checkPut(t, full, of(3, 8, 0, 5), nil, api.ErrLimit)
	checkPut(t, many(2, 51), of(1, 8, 0, 5), nil, api.ErrArg)
}

// Where several refusals apply, the one is told that the document names first; besides it no rows are.
func TestRefusals(t *testing.T) {
	full := many(2, 50)
	for _, c := range []int{0, 1, 3, 51, 99, 101, 102, mostClient} {
		checkPut(t, full, of(c, 1, 0, 0), nil, api.ErrLimit)
		checkPut(t, full, of(c, mostSeq, 0, 0), nil, api.ErrLimit)
		checkPut(t, full, of(c, 0, 0, 0), nil, api.ErrArg) // ahead of ErrLimit
		checkPut(t, full, of(c, 1, mostCode+1, 0), nil, api.ErrArg)
	}
	for i, s := range full {
		checkPut(t, full, s, nil, api.ErrOld) // not ErrLimit: the Client is there
		checkPut(t, full, of(s.Client, 1, 3, 3), nil, api.ErrOld)
		want := slices.Clone(full)
		want[i] = of(s.Client, s.Seq+1, 3, 3)
		checkPut(t, full, want[i], want, api.OK)
		for _, old := range row(of(s.Client, 0, 0, 0), of(s.Client, -1, 0, 0), of(s.Client, s.Seq, -1, 0), of(s.Client, s.Seq, mostCode+1, 0), of(s.Client, s.Seq, 0, -1), of(s.Client, s.Seq, 0, mostN+1)) {
			checkPut(t, full, old, nil, api.ErrArg) // ahead of ErrOld
			checkPut(t, full[:i+1], old, nil, api.ErrArg)
		}
	}
	odd := [][]api.Seen{
		rows("2@1=0,0 1@1=0,0"), rows("1@1=0,0 1@1=0,0"), rows("5@1=0,0 5@2=0,0"), rows("-1@1=0,0"), rows("-1@1=0,0 5@1=0,0"), rows("5@1=0,0 1000001@1=0,0"), rows("5@0=0,0"), rows("1@1=0,0 5@1000000001=0,0"), rows("5@1=0,0 9@0=0,0"),
		rows("5@1=-1,0"), rows("5@1=1001,0"), rows("5@1=0,-1"), rows("5@1=0,1000000001"), rows("1@1=0,0 5@1=1001,0"), rows("1@1=0,-1 5@1=0,0"),
		many(2, 51), many(5, 51), many(2, 1000), backwards(full), append(slices.Clone(full[:49]), of(mostClient+1, 1, 0, 0)), append(slices.Clone(full[:49]), full[48]),
	}
	for _, l := range odd {
		for _, s := range rows("0@1=0,0 5@1=0,0 5@2=0,0 5@1000000000=0,0 1@1=0,0 3@1=0,0 7@7=0,0 -1@1=0,0 5@0=0,0 5@1=-1,0 5@1=0,1000000001 1000001@1=0,0 5@1000000001=0,0") {
			checkPut(t, l, s, nil, api.ErrArg) // whether the new one is right, old, or beyond 50
		}
		checkPut(t, l, l[len(l)-1], nil, api.ErrArg)
	}
}

// state is the rows that there are, and of each Client what ought to be seen.
type state struct {
	l    []api.Seen
	kept map[int]api.Seen
}

// put goes on to another state, and leaves this one what it was.
func (s state) put(t *testing.T, x api.Seen) state {
	t.Helper()
	want, wantErr := put(s.l, x)
	m, e := dedup.Put(s.l, x)
	if !told(m, e, want, wantErr) {
		t.Fatalf("P19.2: Put of %v to %s: %s, %d; want %s, %d", x, show(s.l), show(m), e, show(want), wantErr)
	}
	if e != api.OK {
		return s
	}
	kept := maps.Clone(s.kept)
	kept[x.Client] = x
	return state{m, kept}
}

// check asks that of each Client is seen what was put last, with its reply; that what is less is old, and more is new.
func (s state) check(t *testing.T, clients []int) {
	t.Helper()
	if !dedup.Is(s.l) || !slices.Equal(s.l, rising(s.kept)) {
		t.Fatalf("P19.3: what was put is %s; there are %s", show(s.kept), show(s.l))
	}
	for _, c := range clients {
		last := s.kept[c]
		if n := dedup.Last(s.l, c); n != last.Seq {
			t.Fatalf("P19.3: of %d was put %v; Last is %d", c, last, n)
		}
		for d := -2; d <= 2; d++ {
			want, wantKind := api.Reply{}, 0
			switch {
			case d == 0:
				want, wantKind = last.Reply, 1
			case d < 0:
				wantKind = 2
			}
			if r, kind := dedup.Look(s.l, c, last.Seq+d); r != want || kind != wantKind {
				t.Fatalf("P19.3: of %d was put %v; Look of %d tells %v, %d; want %v, %d", c, last, last.Seq+d, r, kind, want, wantKind)
			}
		}
	}
}

func TestEveryShortRowOfCalls(t *testing.T) {
	clients := []int{0, 5, mostClient, 6, -1, mostClient + 1}
	every := rows("0@1=0,1 0@2=1,2 0@5=2,3 5@1=0,4 5@3=1000,5 5@1000000000=3,1000000000 1000000@2=0,0 1000000@3=0,7 -1@1=0,0 5@0=0,0 5@2=1001,0")
	var goOn func(s state, left int)
	goOn = func(s state, left int) {
		s.check(t, clients)
		if left == 0 {
			return
		}
		for _, x := range every {
			goOn(s.put(t, x), left-1)
		}
		s.check(t, clients)
	}
	goOn(state{nil, map[int]api.Seen{}}, 4)
}

// Long rows of calls, up to 50 and on: then those that are there are put again, by greater Seqs and by lesser ones.
func TestLongRowsOfCalls(t *testing.T) {
	var clients []int
	for i := range 61 {
		clients = append(clients, i)
	}
	for _, step := range []int{1, 2, 17, 60} { // 61 is a prime: each one goes through all Clients
		s := state{nil, map[int]api.Seen{}}
		for i := range 61 {
			s = s.put(t, of(i*step%61, 1+i, i, 2*i))
			s.check(t, clients)
		}
		if len(s.l) != mostRows {
			t.Fatalf("P19.2: of 61 that were put there are %d", len(s.l))
		}
		for i := range 300 {
			s = s.put(t, of(i*7%61, 30+i, i, i)).put(t, of(i*step%61, 1+i, i, 3*i)).put(t, of(i*11%61, 1, i, i))
			s.check(t, clients)
		}
	}
}

// What is put stays seen, whatever other Clients put and whatever is refused, till a greater Seq is put.
func TestOtherClientsStay(t *testing.T) {
	for _, c := range []int{0, 4, 20, 41, 99, mostClient} {
		s := state{nil, map[int]api.Seen{}}.put(t, of(c, 7, 20, 70))
		for i := range 60 {
			if o := 2*i + 1; o != c {
				s = s.put(t, of(o, 1+i, i, i))
			}
			for seq := range 8 {
				s = s.put(t, of(c, seq, 9, 9))
			}
			checkLook(t, s.l, c, 8, api.Reply{}, 0)
			checkLook(t, s.l, c, 7, reply(20, 70), 1)
			checkLook(t, s.l, c, 6, api.Reply{}, 2)
		}
		rest := maps.Clone(s.kept)
		s = s.put(t, of(c, 9, 21, 90))
		checkLook(t, s.l, c, 10, api.Reply{}, 0)
		checkLook(t, s.l, c, 9, reply(21, 90), 1)
		checkLook(t, s.l, c, 8, api.Reply{}, 2)
		checkLook(t, s.l, c, 7, api.Reply{}, 2)
		delete(rest, c)
		for o, x := range rest {
			checkLook(t, s.l, o, x.Seq, x.Reply, 1)
		}
	}
}

// roomy is l with room behind the last one, which is nobody's to write to.
func roomy(l []api.Seen) []api.Seen {
	return append(slices.Clone(l), rows("71@71=7,7 72@72=7,7 73@73=7,7")...)[:len(l)]
}

// overwrite goes up to the end of the room behind the last one.
func overwrite(l []api.Seen) {
	l = l[:cap(l)]
	for i := range l {
		l[i] = of(999, -777, -7, -7)
	}
}

func someRows() [][]api.Seen {
	return [][]api.Seen{nil, row(), rows("5@3=0,7"), rows("2@1=0,8 5@3=0,7 9@2=0,6"), rows("9@1=0,0 5@2=0,0 2@3=0,0 5@4=0,0"), rows("-1@1=0,0 5@-3=0,0"), many(2, 49), many(2, 50), many(2, 51)}
}

// someToPut stand, of one or the other row, ahead of all, between two and behind all, or in the place of one, or are refused.
func someToPut() []api.Seen {
	return rows("0@5=1,2 3@5=1,2 5@5=1,2 9@5=1,2 1000000@5=1,2 2@5=1,2 4@500=1,2 50@500=1,2 51@5=1,2 100@500=1,2 5@1=1,2 -1@5=1,2 5@0=1,2")
}

func TestRowsThatCameInAreAsTheyWere(t *testing.T) {
	for _, l := range someRows() {
		x := roomy(l)
		was := slices.Clone(x[:cap(x)])
		for _, s := range someToPut() {
			m, _ := dedup.Put(x, s)
			overwrite(m)
			dedup.Is(x)
			dedup.Last(x, s.Client)
			dedup.Look(x, s.Client, s.Seq)
			if !slices.Equal(x[:cap(x)], was) {
				t.Fatalf("R2: behind calls of %s and %v it is %s", show(was), s, show(x[:cap(x)]))
			}
		}
	}
}

// everyAnswer is the rows that the calls tell of some row, and the rest.
func everyAnswer(l []api.Seen) (all [][]api.Seen, rest string) {
	for _, s := range someToPut() {
		m, e := dedup.Put(l, s)
		all = append(all, m)
		last := dedup.Last(l, s.Client)
		r, kind := dedup.Look(l, s.Client, last)
		rest += fmt.Sprintln(e, last, r, kind, dedup.Is(m), dedup.Last(m, s.Client))
	}
	return all, rest + fmt.Sprintln(dedup.Is(l))
}

// What is told stands on its own: written over, it changes neither another answer nor what is told later.
func TestAnswersPlayNoPartInLaterCalls(t *testing.T) {
	for _, l := range someRows() {
		all, rest := everyAnswer(l)
		again, same := everyAnswer(l)
		all = append(all, again...)
		var was [][]api.Seen
		for _, m := range all {
			was = append(was, slices.Clone(m))
		}
		for i, m := range all {
			if !slices.Equal(m, was[i]) {
				t.Fatalf("R2: an answer changed with another: %s; want %s", show(m), show(was[i]))
			}
			overwrite(m)
		}
		again, later := everyAnswer(l)
		if rest != same || rest != later {
			t.Errorf("R2: of %s was told %s, then %s, and %s behind answers that were written over", show(l), rest, same, later)
		}
		for i, m := range again {
			if !slices.Equal(m, was[i]) {
				t.Fatalf("R2: behind answers that were written over: %s; want %s", show(m), show(was[i]))
			}
		}
	}
}

// Neither is the row kept that came in: it may be written over.
func TestRowsThatCameInPlayNoPartInLaterCalls(t *testing.T) {
	for _, l := range someRows() {
		x := roomy(l)
		all, rest := everyAnswer(x)
		overwrite(x)
		everyAnswer(x)
		want, same := everyAnswer(l)
		if rest != same || !slices.EqualFunc(all, want, slices.Equal[[]api.Seen]) {
			t.Errorf("R2: of %s was told %s and %s; behind it %s and %s", show(l), show(all), rest, show(want), same)
		}
	}
}

// Each state that there was stays, whatever is gone on to from it.
func TestEarlierRowsStay(t *testing.T) {
	var all, was [][]api.Seen
	l := many(2, 40)
	for i := range 200 {
		all, was = append(all, l), append(was, slices.Clone(l))
		if m, e := dedup.Put(l, of(i*7%101, 50+i, i, i)); e == api.OK {
			l = m
		}
	}
	for i, m := range all {
		if !slices.Equal(m, was[i]) {
			t.Fatalf("R2: what was %s is %s behind later calls", show(was[i]), show(m))
		}
	}
}

func TestLongRows(t *testing.T) {
	l := many(-5, 1<<20)
	checkIs(t, l, false)
	checkPut(t, l, of(2, 3, 0, 0), nil, api.ErrArg)
	last := l[len(l)-1]
	checkLast(t, l, last.Client, last.Seq)
	checkLook(t, l, last.Client, last.Seq, last.Reply, 1)
	checkLast(t, l, last.Client+1, 0)
	checkLook(t, l, last.Client+1, 1, api.Reply{}, 0)
}

// FuzzCalls makes a row of calls: of each one two bytes, the Client and the Seq.
func FuzzCalls(f *testing.F) {
	f.Add([]byte{})
	f.Add([]byte{5, 3, 5, 3, 5, 2, 2, 7, 5, 4, 0, 9, 255, 0, 254, 1})
	f.Fuzz(func(t *testing.T, l []byte) {
		clients := []int{-1, 0, 1, 2, 5, 254, 255, mostClient}
		s := state{nil, map[int]api.Seen{}}
		for l = l[:min(len(l), 400)]; len(l) >= 2; l = l[2:] {
			x := of(int(l[0])-1, int(l[1]), len(l), 1000*len(l))
			s = s.put(t, x)
			s.check(t, append(clients, x.Client))
		}
	})
}

// FuzzRow makes a row of any numbers, of each one 32 bytes.
func FuzzRow(f *testing.F) {
	f.Add([]byte{}, 5, 3, 0, 7)
	f.Add([]byte(strings.Repeat("\x00\x00\x00\x00\x00\x00\x00\x05", 4)), 5, 6, 20, 7)
	f.Add([]byte(strings.Repeat("\x00\x00\x00\x00\x00\x00\x00\x05", 8)), 5, math.MinInt, math.MaxInt, math.MinInt)
	f.Add([]byte(strings.Repeat("\x00\x00\x00\x00\x00\x00\x00\x05\xff\xff\xff\xff\xff\xff\xff\xff", 2)), 5, math.MaxInt, 1001, -1)
	f.Fuzz(func(t *testing.T, s []byte, client, seq, code, n int) {
		var l []api.Seen
		next := func() int {
			x := int(binary.BigEndian.Uint64(s))
			s = s[8:]
			return x
		}
		for len(s) >= 32 {
			l = append(l, of(next(), next(), next(), next()))
		}
		checkAll(t, l, of(client, seq, code, n))
		for _, x := range l {
			checkAll(t, l, of(x.Client, seq, code, n))
			checkAll(t, l, x)
		}
	})
}
