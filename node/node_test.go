package node_test

import (
	"cmp"
	"math"
	"slices"
	"strconv"
	"strings"
	"testing"

	"sexton/api"
	"sexton/node"
)

const latest = 1000000000

func at(path string, time int) api.Key { return api.Key{Path: path, At: time} }

func pair(path string, time int, val string) api.Pair {
	return api.Pair{Key: at(path, time), Val: val}
}

// risingKeys rise, by hand: keys that may be, and in between them structs that may not.
func risingKeys() []api.Key {
	return []api.Key{
		at("", latest), at("", 7), at("", 0), at("", -1), at("\x00", 3), at("..", 3), at("/", 3),
		at("a", math.MaxInt), at("a", 1<<32+3), at("a", latest+1), at("a", latest), at("a", 5), at("a", 4), at("a", 3), at("a", 0), at("a", -1), at("a", math.MinInt),
		at("a\x00", 5), at("a!", 9), at("a/", 5), at("a//b", 1), at("a/b", 9), at("a/b", 2), at("a/b/c", 6), at("a0", 4), at("ab", 1), at("ab", 0), at("b", 5),
		at(strings.Repeat("n", 31), 1), at(strings.Repeat("p", 101), 1), at("z", 8), at("é", 2), at("\xff", 7), at("\xff\xff", latest),
	}
}

// numbered is a row of these keys, each pair with a Val of its own.
func numbered(keys ...api.Key) []api.Pair {
	var l []api.Pair
	for i, k := range keys {
		l = append(l, api.Pair{Key: k, Val: "v" + strconv.Itoa(i)})
	}
	return l
}

// many is a row of n pairs that rise.
func many(n int) []api.Pair {
	var l []api.Pair
	for i := range n {
		l = append(l, pair("p"+strconv.Itoa(1000000+i/3), 9-i%3, "v"+strconv.Itoa(i)))
	}
	return l
}

// risingRows are ordinary ones, and each edge of a row that rises.
func risingRows() map[string][]api.Pair {
	return map[string][]api.Pair{
		"none":                 nil,
		"none, no nil":         {},
		"one":                  numbered(at("b", 3)),
		"two":                  numbered(at("a", 3), at("c", 3)),
		"three":                numbered(at("a", 3), at("b", 3), at("c", 3)),
		"four":                 numbered(at("a", 3), at("b", 9), at("c", 1), at("d", 2)),
		"five":                 numbered(at("a", 3), at("a/b", 3), at("b", 3), at("ba", 3), at("c", 3)),
		"one path":             numbered(at("b", 9), at("b", 5), at("b", 4), at("b", 0)),
		"two paths":            numbered(at("a", 2), at("a", 1), at("b", latest), at("b", 0)),
		"the root":             numbered(at("", latest), at("", 0)),
		"the ends of an At":    numbered(at("b", latest), at("b", 0)),
		"keys that may not be": numbered(at("", -1), at("..", 5), at("b", math.MaxInt), at("b", math.MinInt), at("b/", 4), at("b\xff", latest+1)),
		"all keys":             numbered(risingKeys()...),
		"one Val":              {pair("a", 3, "v"), pair("b", 3, "v"), pair("c", 3, "v")},
		"no Vals":              {pair("a", 3, ""), pair("b", 3, ""), pair("c", 3, "")},
		"Vals that fall":       {pair("a", 3, "z"), pair("b", 3, "m\x00"), pair("c", 3, "\xff"), pair("d", 3, "")},
		"a Val of a megabyte":  {pair("a", 3, strings.Repeat("x", 1<<20)), pair("b", 3, "v")},
		"100":                  many(100),
		"101":                  many(101),
	}
}

// wrongRows don't rise, each for the one reason that it is named by.
func wrongRows() map[string][]api.Pair {
	hundred, twice := many(100), many(100)
	hundred[98], hundred[99] = hundred[99], hundred[98]
	twice[50] = twice[49]
	return map[string][]api.Pair{
		"two fall":                    numbered(at("b", 3), at("a", 3)),
		"three fall":                  numbered(at("c", 3), at("b", 3), at("a", 3)),
		"the first one is late":       numbered(at("d", 3), at("a", 3), at("b", 3), at("c", 3)),
		"the last one is early":       numbered(at("b", 3), at("c", 3), at("d", 3), at("a", 3)),
		"two in the middle":           numbered(at("a", 3), at("c", 3), at("b", 3), at("d", 3)),
		"rising times of one path":    numbered(at("b", 3), at("b", 5)),
		"such in the middle":          numbered(at("a", 3), at("b", 3), at("b", 4), at("c", 3)),
		"such of keys that may not":   numbered(at("b", -1), at("b", math.MaxInt)),
		"twice":                       numbered(at("b", 3), at("b", 3)),
		"twice, one Val":              {pair("b", 3, "v"), pair("b", 3, "v")},
		"the first twice":             numbered(at("a", 3), at("a", 3), at("b", 3)),
		"the last twice":              numbered(at("a", 3), at("b", 3), at("b", 3)),
		"three times":                 numbered(at("b", 3), at("b", 3), at("b", 3)),
		"again, with others between":  numbered(at("b", 3), at("c", 3), at("d", 3), at("b", 3)),
		"again behind a lesser one":   numbered(at("b", 3), at("a", 3), at("b", 3), at("c", 3)),
		"a longer path ahead":         numbered(at("b/c", 3), at("b", 3)),
		"a path twice that may not":   numbered(at("..", 3), at("..", 3)),
		"the empty key twice":         {{}, {}},
		"the last two of a hundred":   hundred,
		"the middle one of a hundred": twice,
		"up and down":                 numbered(at("a", 3), at("d", 3), at("b", 3), at("d", 3), at("c", 3), at("e", 3)),
		"rising times, rising paths":  numbered(at("a", 1), at("a", 2), at("b", 1), at("b", 2)),
		"all keys, falling":           falling(),
	}
}

func falling() []api.Pair {
	keys := risingKeys()
	slices.Reverse(keys)
	return numbered(keys...)
}

func allRows() map[string][]api.Pair {
	l := wrongRows()
	for what, row := range risingRows() {
		l["rises: "+what] = row
	}
	return l
}

// askedKeys are all of risingKeys, those of the rows, and some that stand in no row.
func askedKeys() []api.Key {
	keys := risingKeys()
	for _, path := range []string{"", "A", "a", "aa", "b", "b/", "b/c", "ba", "bb", "b\xff", "c", "d", "e", "p1000016", "p1000033", "zz"} {
		for _, time := range []int{math.MinInt, -1, 0, 1, 2, 3, 4, 5, 6, 8, 9, 10, latest - 1, latest, latest + 1, math.MaxInt} {
			keys = append(keys, at(path, time))
		}
	}
	return keys
}

// The document's words, told by other means than the program's.

func ahead(a, b api.Key) bool {
	return a.Path < b.Path || a.Path == b.Path && a.At > b.At
}

// rises holds any two against each other, not only neighbours.
func rises(l []api.Pair) bool {
	for i := range l {
		for k := range i {
			if !ahead(l[k].Key, l[i].Key) {
				return false
			}
		}
	}
	return true
}

func find(l []api.Pair, k api.Key) (int, bool) {
	n := slices.IndexFunc(l, func(p api.Pair) bool { return !ahead(p.Key, k) })
	if n < 0 {
		return len(l), false
	}
	return n, l[n].Key == k
}

func withPut(l []api.Pair, p api.Pair) []api.Pair {
	n, is := find(l, p.Key)
	if is {
		c := slices.Clone(l)
		c[n] = p
		return c
	}
	return slices.Insert(slices.Clone(l), n, p)
}

func withDropped(l []api.Pair, k api.Key) []api.Pair {
	n, is := find(l, k)
	if !is {
		return l
	}
	return slices.Delete(slices.Clone(l), n, n+1)
}

// halves takes a pair for the first half for each that is left for the rest.
func halves(l []api.Pair) (first, rest []api.Pair) {
	n := 0
	for n+1 <= len(l)-(n+1) {
		n++
	}
	return l[:n], l[n:]
}

func levelled(a, b []api.Pair, most int) (first, rest []api.Pair, e api.Errno) {
	all := slices.Concat(a, b)
	switch {
	case most < 1:
		return nil, nil, api.ErrArg
	case most >= len(all):
		return all, nil, api.OK
	}
	first, rest = halves(all)
	return first, rest, api.OK
}

func showKey(k api.Key) string { return strconv.QuoteToASCII(k.Path) + " " + strconv.Itoa(k.At) }

func show(l []api.Pair) string {
	var b strings.Builder
	for _, p := range l {
		b.WriteString("[" + showKey(p.Key) + ": " + short(strconv.QuoteToASCII(p.Val)) + "]")
	}
	return short(b.String())
}

// short cuts a long text so that a failure can be read.
func short(s string) string {
	if len(s) > 300 {
		return s[:300] + ".."
	}
	return s
}

func checkIs(t *testing.T, what string, l []api.Pair, want bool) {
	t.Helper()
	if node.Is(l) != want {
		t.Errorf("P9.1: %s: Is of %s: %v", what, show(l), !want)
	}
}

func checkFind(t *testing.T, what string, l []api.Pair, k api.Key, want int, wantIs bool) {
	t.Helper()
	if n, is := node.Find(l, k); n != want || is != wantIs {
		t.Errorf("P9.1: %s: Find of %s in %s: %d, %v; want %d, %v", what, showKey(k), show(l), n, is, want, wantIs)
	}
}

func checkPut(t *testing.T, what string, l []api.Pair, p api.Pair, want []api.Pair) {
	t.Helper()
	if m := node.Put(l, p); !slices.Equal(m, want) {
		t.Errorf("P9.2: %s: Put of %s to %s: %s; want %s", what, showKey(p.Key), show(l), show(m), show(want))
	}
}

func checkDrop(t *testing.T, what string, l []api.Pair, k api.Key, want []api.Pair) {
	t.Helper()
	if m := node.Drop(l, k); !slices.Equal(m, want) {
		t.Errorf("P9.2: %s: Drop of %s from %s: %s; want %s", what, showKey(k), show(l), show(m), show(want))
	}
}

func checkSplit(t *testing.T, what string, l, wantFirst, wantRest []api.Pair) {
	t.Helper()
	if first, rest := node.Split(l); !slices.Equal(first, wantFirst) || !slices.Equal(rest, wantRest) {
		t.Errorf("P9.3: %s: Split of %s: %s and %s; want %s and %s", what, show(l), show(first), show(rest), show(wantFirst), show(wantRest))
	}
}

func checkLevel(t *testing.T, what string, a, b []api.Pair, most int, wantFirst, wantRest []api.Pair, wantErr api.Errno) {
	t.Helper()
	first, rest, e := node.Level(a, b, most)
	if !slices.Equal(first, wantFirst) || !slices.Equal(rest, wantRest) || e != wantErr {
		t.Errorf("P9.3: %s: Level of %s and %s with %d: %s and %s, %d; want %s and %s, %d",
			what, show(a), show(b), most, show(first), show(rest), e, show(wantFirst), show(wantRest), wantErr)
	}
}

// checkAll holds what P9.1 and P9.2 say of a row and a key against the words told by other means.
func checkAll(t *testing.T, what string, l []api.Pair, k api.Key) {
	t.Helper()
	n, is := find(l, k)
	checkFind(t, what, l, k, n, is)
	p := api.Pair{Key: k, Val: "new"}
	checkPut(t, what, l, p, withPut(l, p))
	checkDrop(t, what, l, k, withDropped(l, k))
}

// checkCuts holds Split of a row, and Level of it cut in two at each place, against the words told by other means.
func checkCuts(t *testing.T, what string, l []api.Pair) {
	t.Helper()
	first, rest := halves(l)
	checkSplit(t, what, l, first, rest)
	for n := range len(l) + 1 {
		// One cut's failures tell enough.
		if t.Failed() {
			return
		}
		for _, most := range mosts(len(l)) {
			a, b := l[:n], l[n:]
			first, rest, e := levelled(a, b, most)
			checkLevel(t, what, a, b, most, first, rest, e)
			first, rest, e = levelled(b, a, most)
			checkLevel(t, what, b, a, most, first, rest, e)
		}
	}
}

// mosts are the edges of Level's most, where there are so many pairs.
func mosts(n int) []int {
	return []int{math.MinInt, -n, -1, 0, 1, 2, n / 2, n/2 + 1, n - 1, n, n + 1, 2 * n, 1 << 32, math.MaxInt}
}

func TestExamples(t *testing.T) {
	l := numbered(at("a", 5), at("c", 5))
	b := pair("b", 5, "new")
	checkFind(t, "the example", l, b.Key, 1, false)
	checkPut(t, "the example", l, b, []api.Pair{l[0], b, l[1]})
	checkDrop(t, "the example", l, at("a", 5), l[1:])
	l = numbered(at("a", 5), at("b", 5), at("c", 5))
	checkSplit(t, "the example", l, l[:1], l[1:])
	checkLevel(t, "the example", l, nil, 2, l[:1], l[1:], api.OK)
	checkLevel(t, "the example", l, nil, 3, l, nil, api.OK)
	checkLevel(t, "the example", nil, l, 2, l[:1], l[1:], api.OK)
	checkLevel(t, "the example", nil, l, 3, l, nil, api.OK)
}

func TestIs(t *testing.T) {
	for what, l := range risingRows() {
		checkIs(t, what, l, true)
	}
	for what, l := range wrongRows() {
		checkIs(t, what, l, false)
	}
	checkIs(t, "a great row", many(100000), true)
}

func TestIsOfAnyTwoKeys(t *testing.T) {
	keys := risingKeys()
	for i, a := range keys {
		for k, b := range keys {
			checkIs(t, "two", numbered(a, b), i < k)
			// One that stands right doesn't mend two that do not.
			checkIs(t, "two, and one behind", numbered(a, b, at("\xff\xff\xff", 0)), i < k)
			checkIs(t, "two, and one ahead", numbered(at("", math.MaxInt), a, b), i < k)
		}
	}
}

// A row rises no more when one of its keys stands twice, or two change their places.
func TestIsOfChangedRows(t *testing.T) {
	for what, l := range risingRows() {
		for i := range min(len(l), 50) {
			checkIs(t, what+", one twice", slices.Insert(slices.Clone(l), i, l[i]), false)
			for k := range i {
				c := slices.Clone(l)
				c[i], c[k] = c[k], c[i]
				checkIs(t, what+", two changed", c, false)
				c = slices.Clone(l)
				c[i].Key = c[k].Key
				checkIs(t, what+", one again", c, false)
			}
		}
	}
}

// found is where a key stands in a row, written out by hand.
type found struct {
	k  api.Key
	n  int
	is bool
}

func checkFound(t *testing.T, what string, l []api.Pair, places []found) {
	t.Helper()
	for _, x := range places {
		checkFind(t, what, l, x.k, x.n, x.is)
		p := api.Pair{Key: x.k, Val: "new"}
		rest := l[x.n:]
		if x.is {
			rest = rest[1:]
		}
		checkPut(t, what, l, p, slices.Concat(l[:x.n], []api.Pair{p}, rest))
		if x.is {
			checkDrop(t, what, l, x.k, slices.Concat(l[:x.n], rest))
		} else {
			checkDrop(t, what, l, x.k, l)
		}
	}
}

func TestPlacesInRowsThatRise(t *testing.T) {
	checkFound(t, "none", nil, []found{{at("a", 5), 0, false}, {at("", 0), 0, false}, {api.Key{}, 0, false}, {at("\xff", -1), 0, false}})
	checkFound(t, "one", numbered(at("b", 5)), []found{
		{at("a", 5), 0, false}, {at("", 5), 0, false}, {at("b", 6), 0, false}, {at("b", math.MaxInt), 0, false}, {at("b", 5), 0, true},
		{at("b", 4), 1, false}, {at("b", -5), 1, false}, {at("b", math.MinInt), 1, false}, {at("b/a", 9), 1, false}, {at("b\x00", 9), 1, false}, {at("c", 9), 1, false},
	})
	checkFound(t, "three", numbered(at("b", 5), at("d", 5), at("f", 5)), []found{
		{at("a", 5), 0, false}, {at("b", 6), 0, false}, {at("b", 5), 0, true}, {at("b", 4), 1, false}, {at("c", 5), 1, false}, {at("d", 6), 1, false},
		{at("d", 5), 1, true}, {at("d", 4), 2, false}, {at("e", 5), 2, false}, {at("f", 6), 2, false}, {at("f", 5), 2, true}, {at("f", 4), 3, false}, {at("g", 5), 3, false},
	})
	checkFound(t, "four", numbered(at("b", 5), at("d", 5), at("f", 5), at("h", 5)), []found{
		{at("a", 5), 0, false}, {at("b", 5), 0, true}, {at("c", 5), 1, false}, {at("d", 5), 1, true}, {at("e", 5), 2, false}, {at("f", 5), 2, true},
		{at("g", 5), 3, false}, {at("h", 5), 3, true}, {at("h", 4), 4, false}, {at("i", 5), 4, false},
	})
	checkFound(t, "one path", numbered(at("b", 9), at("b", 5), at("b", 3)), []found{
		{at("b", 10), 0, false}, {at("b", 9), 0, true}, {at("b", 8), 1, false}, {at("b", 6), 1, false}, {at("b", 5), 1, true}, {at("b", 4), 2, false},
		{at("b", 3), 2, true}, {at("b", 2), 3, false}, {at("b", 0), 3, false}, {at("a", 5), 0, false}, {at("b/c", 5), 3, false},
	})
	checkFound(t, "keys that may not be", numbered(at("..", 5), at("b", latest+1), at("b", -1), at("b/", 2)), []found{
		{at(".", 5), 0, false}, {at("..", 6), 0, false}, {at("..", 5), 0, true}, {at("..", 4), 1, false}, {at("b", latest+2), 1, false}, {at("b", latest+1), 1, true},
		{at("b", latest), 2, false}, {at("b", 0), 2, false}, {at("b", -1), 2, true}, {at("b", -2), 3, false}, {at("b/", 3), 3, false}, {at("b/", 2), 3, true}, {at("b//", 2), 4, false},
	})
}

// A row that doesn't rise is gone through up to the first pair that does not stand ahead, whatever stands behind that one.
func TestPlacesInRowsThatDoNotRise(t *testing.T) {
	checkFound(t, "falling", numbered(at("c", 3), at("b", 3), at("a", 3)), []found{
		{at("d", 3), 3, false}, {at("c", 3), 0, true}, {at("b", 3), 0, false}, {at("a", 3), 0, false}, {at("", 3), 0, false}, {at("c", 2), 3, false},
	})
	checkFound(t, "falling behind the first", numbered(at("a", 3), at("d", 3), at("b", 3), at("c", 3)), []found{
		{at("a", 3), 0, true}, {at("aa", 3), 1, false}, {at("b", 3), 1, false}, {at("c", 3), 1, false}, {at("d", 3), 1, true}, {at("d", 2), 4, false}, {at("e", 3), 4, false},
	})
	checkFound(t, "the last one is early", numbered(at("b", 3), at("c", 3), at("d", 3), at("a", 3)), []found{
		{at("a", 3), 0, false}, {at("b", 3), 0, true}, {at("c", 3), 1, true}, {at("d", 3), 2, true}, {at("e", 3), 4, false},
	})
	checkFound(t, "twice", numbered(at("a", 3), at("b", 3), at("b", 3), at("c", 3)), []found{
		{at("a", 3), 0, true}, {at("b", 4), 1, false}, {at("b", 3), 1, true}, {at("b", 2), 3, false}, {at("c", 3), 3, true}, {at("d", 3), 4, false},
	})
	checkFound(t, "three times", numbered(at("b", 3), at("b", 3), at("b", 3)), []found{
		{at("a", 3), 0, false}, {at("b", 3), 0, true}, {at("b", 2), 3, false}, {at("c", 3), 3, false},
	})
	checkFound(t, "again behind others", numbered(at("b", 3), at("a", 3), at("c", 3), at("b", 3)), []found{
		{at("a", 3), 0, false}, {at("b", 3), 0, true}, {at("c", 3), 2, true}, {at("bb", 3), 2, false}, {at("d", 3), 4, false},
	})
	checkFound(t, "rising times", numbered(at("b", 3), at("b", 5), at("b", 4)), []found{
		{at("b", 6), 0, false}, {at("b", 5), 0, false}, {at("b", 4), 0, false}, {at("b", 3), 0, true}, {at("b", 2), 3, false},
	})
	checkFound(t, "up and down", numbered(at("a", 3), at("d", 3), at("b", 3), at("d", 3), at("c", 3), at("e", 3)), []found{
		{at("b", 3), 1, false}, {at("c", 3), 1, false}, {at("d", 3), 1, true}, {at("dd", 3), 5, false}, {at("e", 3), 5, true}, {at("f", 3), 6, false},
	})
}

// Of a key that stands twice, the first one alone is changed, or dropped.
func TestPutAndDropOfAKeyThatStandsTwice(t *testing.T) {
	l := []api.Pair{pair("a", 3, "1"), pair("b", 3, "2"), pair("b", 3, "3"), pair("c", 3, "4")}
	checkPut(t, "twice", l, pair("b", 3, "new"), []api.Pair{pair("a", 3, "1"), pair("b", 3, "new"), pair("b", 3, "3"), pair("c", 3, "4")})
	checkDrop(t, "twice", l, at("b", 3), []api.Pair{pair("a", 3, "1"), pair("b", 3, "3"), pair("c", 3, "4")})
}

func TestPutOfAnyVal(t *testing.T) {
	l := []api.Pair{pair("a", 3, "1"), pair("b", 3, ""), pair("c", 3, "3")}
	for _, val := range []string{"", "1", "\x00", "\xff\xfe", "é", strings.Repeat("x", 4001), strings.Repeat("x", 1<<20)} {
		checkPut(t, "there", l, pair("a", 3, val), []api.Pair{pair("a", 3, val), l[1], l[2]})
		checkPut(t, "there", l, pair("b", 3, val), []api.Pair{l[0], pair("b", 3, val), l[2]})
		checkPut(t, "not there", l, pair("b", 4, val), []api.Pair{l[0], pair("b", 4, val), l[1], l[2]})
		checkPut(t, "none", nil, pair("b", 4, val), []api.Pair{pair("b", 4, val)})
	}
}

func TestAllKeysInAllRows(t *testing.T) {
	keys := askedKeys()
	for what, l := range allRows() {
		for _, k := range keys {
			checkAll(t, what, l, k)
		}
		for _, p := range l {
			checkAll(t, what+", its own", l, p.Key)
		}
		// One row's failures tell enough.
		if t.Failed() {
			return
		}
	}
}

// everyRow calls f with every row of at most so many pairs of these keys, each pair with a Val of its own.
func everyRow(keys []api.Key, most int, f func(l []api.Pair)) {
	var from func(l []api.Pair)
	from = func(l []api.Pair) {
		f(l)
		if len(l) == most {
			return
		}
		for _, k := range keys {
			from(append(slices.Clone(l), api.Pair{Key: k, Val: "v" + strconv.Itoa(len(l))}))
		}
	}
	from(nil)
}

func TestEveryShortRow(t *testing.T) {
	keys := []api.Key{at("a", 5), at("a", 3), at("a/b", 9), at("b", -1), at("..", 4)}
	asked := append(slices.Clone(keys), at("", 0), at("a", 6), at("a", 4), at("a", 0), at("a/b", 8), at("b", 0), at("b", -2), at("c", 1))
	everyRow(keys, 5, func(l []api.Pair) {
		if t.Failed() {
			return
		}
		checkIs(t, "every row", l, rises(l))
		for _, k := range asked {
			checkAll(t, "every row", l, k)
		}
		checkCuts(t, "every row", l)
	})
}

func TestSplit(t *testing.T) {
	one, a, b, c, d := pair("o", 1, ""), pair("a", 5, "1"), pair("b", 5, "2"), pair("c", 5, "3"), pair("d", 5, "4")
	for _, x := range []struct{ first, rest []api.Pair }{
		{nil, nil}, {nil, []api.Pair{one}}, {[]api.Pair{a}, []api.Pair{b}}, {[]api.Pair{a}, []api.Pair{b, c}},
		{[]api.Pair{a, b}, []api.Pair{c, d}}, {[]api.Pair{a, b}, []api.Pair{c, d, one}},
		// Rows that don't rise, or in which a key stands twice.
		{[]api.Pair{b}, []api.Pair{a}}, {[]api.Pair{d}, []api.Pair{c, b}}, {[]api.Pair{a, a}, []api.Pair{a, a}}, {[]api.Pair{a}, []api.Pair{a, a}}, {[]api.Pair{d, a}, []api.Pair{c, b, d}},
	} {
		checkSplit(t, "by hand", slices.Concat(x.first, x.rest), x.first, x.rest)
	}
	for n := range 200 {
		l := many(n)
		checkSplit(t, "many", l, l[:n/2], l[n/2:])
	}
	l := many(100001)
	checkSplit(t, "a great row", l, l[:50000], l[50000:])
}

func TestLevel(t *testing.T) {
	l := numbered(at("a", 5), at("b", 5), at("c", 5), at("d", 5), at("e", 5))
	for _, x := range []struct{ a, b, most, first int }{ // of first 0 all are told, and none
		{0, 0, 1, 0}, {0, 0, 2, 0}, {0, 0, math.MaxInt, 0},
		{1, 0, 1, 0}, {0, 1, 1, 0}, {1, 0, 2, 0}, {0, 1, 2, 0},
		{1, 1, 1, 1}, {2, 0, 1, 1}, {0, 2, 1, 1}, {1, 1, 2, 0}, {2, 0, 2, 0}, {0, 2, 2, 0}, {1, 1, 3, 0},
		{2, 1, 1, 1}, {1, 2, 2, 1}, {3, 0, 2, 1}, {0, 3, 2, 1}, {2, 1, 3, 0}, {3, 0, 3, 0}, {0, 3, 3, 0}, {1, 2, 4, 0},
		{4, 0, 3, 2}, {0, 4, 3, 2}, {1, 3, 1, 2}, {3, 1, 2, 2}, {2, 2, 3, 2}, {2, 2, 4, 0}, {1, 3, 4, 0}, {1, 3, 5, 0},
		{5, 0, 4, 2}, {0, 5, 4, 2}, {4, 1, 4, 2}, {1, 4, 1, 2}, {2, 3, 3, 2}, {3, 2, 2, 2}, {3, 2, 5, 0}, {0, 5, 5, 0}, {5, 0, 6, 0}, {2, 3, math.MaxInt, 0},
	} {
		all := l[:x.a+x.b]
		first, rest := all[:x.first], all[x.first:]
		if x.first == 0 {
			first, rest = all, nil
		}
		checkLevel(t, "by hand", l[:x.a], l[x.a:x.a+x.b], x.most, first, rest, api.OK)
	}
	a, b := many(30001), many(70000)
	all := slices.Concat(a, b)
	checkLevel(t, "great rows", a, b, 100000, all[:50000], all[50000:], api.OK)
	checkLevel(t, "great rows", a, b, 100001, all, nil, api.OK)
}

func TestLevelWithAMostBelow1(t *testing.T) {
	rows := allRows()
	for _, most := range []int{0, -1, -2, -100, -1 << 32, -1<<32 + 5, math.MinInt + 1, math.MinInt} {
		for what, l := range rows {
			checkLevel(t, what, l, nil, most, nil, nil, api.ErrArg)
			checkLevel(t, what, nil, l, most, nil, nil, api.ErrArg)
			checkLevel(t, what, l, l, most, nil, nil, api.ErrArg)
		}
	}
}

// What stands in b goes behind a, also where it is the lesser, or the same.
func TestLevelOfRowsThatDoNotRise(t *testing.T) {
	a, b, c := pair("a", 5, "1"), pair("b", 5, "2"), pair("c", 5, "3")
	early, late := []api.Pair{a, b}, []api.Pair{c}
	checkLevel(t, "late ahead", late, early, 3, []api.Pair{c, a, b}, nil, api.OK)
	checkLevel(t, "late ahead", late, early, 2, []api.Pair{c}, []api.Pair{a, b}, api.OK)
	checkLevel(t, "one row twice", early, early, 4, []api.Pair{a, b, a, b}, nil, api.OK)
	checkLevel(t, "one row twice", early, early, 3, []api.Pair{a, b}, []api.Pair{a, b}, api.OK)
	checkLevel(t, "falling", []api.Pair{c, b}, []api.Pair{a}, 2, []api.Pair{c}, []api.Pair{b, a}, api.OK)
	for what, l := range wrongRows() {
		checkCuts(t, what, l)
	}
}

func TestSplitAndLevelOfRowsThatRise(t *testing.T) {
	for what, l := range risingRows() {
		checkCuts(t, what, l)
	}
}

// checkStays holds that the pairs of l, but those of the key k, are found in m, and nothing else but k.
func checkStays(t *testing.T, l, m []api.Pair, k api.Key) {
	t.Helper()
	others := 0
	for _, p := range l {
		if p.Key == k {
			continue
		}
		others++
		if n, is := node.Find(m, p.Key); !is || m[n] != p {
			t.Errorf("P9.4: %s does not stay: of %s there is %s", showKey(p.Key), show(l), show(m))
		}
	}
	if _, is := node.Find(m, k); is {
		others++
	}
	if len(m) != others {
		t.Errorf("P9.4: of %s there is %s", show(l), show(m))
	}
}

// checkFollows holds what P9.4 says of a row that rises, and a pair.
func checkFollows(t *testing.T, l []api.Pair, p api.Pair) {
	t.Helper()
	m := node.Put(l, p)
	if !node.Is(m) || !rises(m) {
		t.Errorf("P9.4: %s was put to %s, and it rises no more: %s", showKey(p.Key), show(l), show(m))
	}
	if n, is := node.Find(m, p.Key); !is || m[n] != p {
		t.Errorf("P9.4: %s was put to %s, and is not found: %s", showKey(p.Key), show(l), show(m))
	}
	checkStays(t, l, m, p.Key)
	less := node.Drop(m, p.Key)
	if !node.Is(less) || !rises(less) {
		t.Errorf("P9.4: %s was dropped from %s, and it rises no more: %s", showKey(p.Key), show(m), show(less))
	}
	if _, is := node.Find(less, p.Key); is {
		t.Errorf("P9.4: %s was dropped from %s, and is found: %s", showKey(p.Key), show(m), show(less))
	}
	checkStays(t, m, less, p.Key)
	if !slices.Equal(less, node.Drop(l, p.Key)) {
		t.Errorf("P9.4: %s was put to %s and dropped: %s", showKey(p.Key), show(l), show(less))
	}
}

// checkTogether holds what P9.4 says of a row that is split, or cut in two and levelled.
func checkTogether(t *testing.T, l []api.Pair, cut, most int) {
	t.Helper()
	first, rest := node.Split(l)
	if !slices.Equal(slices.Concat(first, rest), l) || len(rest) < len(first) || len(rest) > len(first)+1 {
		t.Errorf("P9.4: %s was split: %s and %s", show(l), show(first), show(rest))
	}
	if rises(l) && !(node.Is(first) && node.Is(rest)) {
		t.Errorf("P9.4: %s was split, and the halves don't rise: %s and %s", show(l), show(first), show(rest))
	}
	first, rest, e := node.Level(l[:cut], l[cut:], most)
	if e != api.OK || !slices.Equal(slices.Concat(first, rest), l) {
		t.Errorf("P9.4: %s was levelled at %d with %d: %s and %s, %d", show(l), cut, most, show(first), show(rest), e)
	}
}

func TestWhatFollows(t *testing.T) {
	keys := []api.Key{at("", 2), at("a", 5), at("a", 3), at("a", 0), at("a/b", 9), at("a0", 4), at("b", 5), at("b", -1)}
	for mask := range 1 << len(keys) {
		var l []api.Pair
		for i, k := range keys {
			if mask>>i&1 == 1 {
				l = append(l, api.Pair{Key: k, Val: "v" + strconv.Itoa(i)})
			}
		}
		for _, k := range slices.Concat(keys, []api.Key{at("", 3), at("", 1), at("a", 4), at("a!", 4), at("b", 0), at("c", 0)}) {
			checkFollows(t, l, api.Pair{Key: k, Val: "new"})
		}
		for cut := range len(l) + 1 {
			for most := 1; most < len(l)+2; most++ {
				checkTogether(t, l, cut, most)
			}
		}
		// One row's failures tell enough.
		if t.Failed() {
			return
		}
	}
	for _, l := range risingRows() {
		for _, k := range askedKeys() {
			checkFollows(t, l, api.Pair{Key: k, Val: "new"})
		}
		if t.Failed() {
			return
		}
	}
	for _, l := range allRows() {
		for cut := range len(l) + 1 {
			checkTogether(t, l, cut, max(1, len(l)-1))
		}
	}
}

// In whatever order pairs are put to no row, or dropped from one, what is left rises.
func TestRowsMadeByPutAndUnmadeByDrop(t *testing.T) {
	keys := risingKeys()
	want := numbered(keys...)
	// Each of these steps has no part in common with the number of keys, so that it comes to all of them.
	for _, step := range []int{1, 3, 5, 7, 9, 11, 13, 15, 19, 33} {
		var l []api.Pair
		order := make([]int, len(keys))
		for i := range order {
			order[i] = i * step % len(keys)
			p := want[order[i]]
			old := p
			old.Val = "old"
			l = node.Put(node.Put(l, old), p)
			checkIs(t, "made by Put", l, true)
		}
		if !slices.Equal(l, want) {
			t.Fatalf("P9.4: step %d: %s", step, show(l))
		}
		for n, i := range order {
			l = node.Drop(l, keys[i])
			checkIs(t, "unmade by Drop", l, true)
			if len(l) != len(keys)-n-1 {
				t.Fatalf("P9.4: step %d: %d pairs behind %d drops", step, len(l), n+1)
			}
		}
	}
}

var odd = api.Pair{Key: api.Key{Path: "odd", At: 77}, Val: "odd"}

// roomy is l on memory that has room behind its last pair: there too nothing is to be written.
func roomy(l []api.Pair) []api.Pair {
	room := append(slices.Clone(l), odd, odd, odd)
	return room[:len(l)]
}

// checkReadsAsBefore holds a row of roomy against what it was, with the room behind it.
func checkReadsAsBefore(t *testing.T, what string, given, l []api.Pair) {
	t.Helper()
	if want := append(slices.Clone(l), odd, odd, odd); !slices.Equal(given[:len(want)], want) {
		t.Errorf("R2: %s: %s reads %s", what, show(want), show(given[:len(want)]))
	}
}

// overwrite changes all that an answer holds, and the room behind it.
func overwrite(l []api.Pair) {
	l = l[:cap(l)]
	for i := range l {
		l[i] = pair("changed", -7, "changed")
	}
}

// answers are all rows that the calls tell of a row, or of the pieces of it.
func answers(l []api.Pair, k api.Key, cut int) [][]api.Pair {
	var rows [][]api.Pair
	rows = append(rows, node.Put(l, api.Pair{Key: k, Val: "new"}), node.Drop(l, k))
	first, rest := node.Split(l)
	rows = append(rows, first, rest)
	for _, most := range []int{0, 1, len(l) - 1, len(l), len(l) + 1} {
		first, rest, _ := node.Level(l[:cut], l[cut:], most)
		rows = append(rows, first, rest)
		first, rest, _ = node.Level(l[cut:], l[:cut], most)
		rows = append(rows, first, rest)
	}
	return rows
}

func clones(rows [][]api.Pair) [][]api.Pair {
	var l [][]api.Pair
	for _, row := range rows {
		l = append(l, slices.Clone(row))
	}
	return l
}

// shortKeys are asked of the rows of at most six pairs.
func shortKeys(l []api.Pair) []api.Key {
	keys := []api.Key{at("", latest), at("a", 3), at("aa", 3), at("b", 3), at("b", 4), at("\xff\xff", -1)}
	for _, p := range l[:min(len(l), 6)] {
		keys = append(keys, p.Key)
	}
	return keys
}

func TestArgumentsReadAsBefore(t *testing.T) {
	for what, l := range allRows() {
		for _, k := range shortKeys(l) {
			for cut := range min(len(l), 6) + 1 {
				given := roomy(l)
				node.Is(given)
				node.Find(given, k)
				for _, row := range answers(given, k, cut) {
					overwrite(row)
				}
				checkReadsAsBefore(t, what, given, l)
			}
		}
		if t.Failed() {
			return
		}
	}
}

// Two rows that are levelled, each with room, and one row as both.
func TestLevelLeavesBothRows(t *testing.T) {
	for what, l := range allRows() {
		for _, most := range []int{-1, 1, len(l), 2 * len(l), 2*len(l) + 3} {
			a, b := roomy(l), roomy(l)
			first, rest, _ := node.Level(a, b, most)
			overwrite(first)
			overwrite(rest)
			checkReadsAsBefore(t, what, a, l)
			checkReadsAsBefore(t, what, b, l)
			node.Level(a, a, most)
			node.Level(a, nil, most)
			node.Level(nil, a, most)
			checkReadsAsBefore(t, what, a, l)
		}
	}
}

// An answer stands on its own: not on an argument's memory, nor on that of the other row that it was told with.
func TestAnswersStandAlone(t *testing.T) {
	for what, l := range allRows() {
		for _, k := range shortKeys(l) {
			for cut := range min(len(l), 6) + 1 {
				given := roomy(l)
				rows := answers(given, k, cut)
				want := clones(rows)
				overwrite(given)
				for i, row := range rows {
					if !slices.Equal(row, want[i]) {
						t.Fatalf("R2: %s: answer %d for %s cut at %d shares memory: %s", what, i, showKey(k), cut, show(row))
					}
					overwrite(row)
				}
			}
		}
	}
}

func TestEqualCallsAnswerAlike(t *testing.T) {
	for what, l := range allRows() {
		for _, k := range shortKeys(l) {
			for cut := range min(len(l), 6) + 1 {
				one, other := answers(l, k, cut), answers(roomy(l), k, cut)
				if !slices.EqualFunc(one, other, slices.Equal[[]api.Pair]) {
					t.Fatalf("R2: %s: two calls for %s cut at %d are not alike", what, showKey(k), cut)
				}
			}
		}
	}
}

// rowOf is a row told by bytes, two a pair: few paths and times, so that keys stand there again.
func rowOf(data []byte) []api.Pair {
	paths := []string{"", "a", "a/b", "a!", "b", "..", "a\x00", "b/"}
	times := []int{5, 3, 4, 0, latest, -1, latest + 1, math.MaxInt}
	var l []api.Pair
	for i := 0; i+1 < len(data); i += 2 {
		l = append(l, pair(paths[int(data[i])%len(paths)], times[int(data[i+1])%len(times)], "v"+strconv.Itoa(i)))
	}
	return l
}

func FuzzCalls(f *testing.F) {
	f.Add([]byte{}, "a", 5, 1, 0)
	f.Add([]byte{1, 0, 1, 1, 4, 1}, "a", 3, 2, 1)
	f.Add([]byte{4, 0, 1, 0, 1, 0, 3, 3}, "a", 4, 4, 3)
	f.Add([]byte{0, 4, 1, 7, 1, 5, 2, 2, 2, 1}, "b", math.MinInt, -1, 2)
	f.Fuzz(func(t *testing.T, data []byte, path string, time, most, cut int) {
		l := rowOf(data)
		k := at(path, time)
		given := roomy(l)
		checkIs(t, "fuzz", given, rises(l))
		checkAll(t, "fuzz", given, k)
		for _, p := range l {
			checkAll(t, "fuzz", given, p.Key)
		}
		n := int(uint(cut) % uint(len(l)+1))
		first, rest, e := levelled(l[:n], l[n:], most)
		checkLevel(t, "fuzz", given[:n], given[n:], most, first, rest, e)
		checkTogether(t, given, n, max(1, most))
		checkReadsAsBefore(t, "fuzz", given, l)
		slices.SortFunc(l, func(p, q api.Pair) int {
			return cmp.Or(strings.Compare(p.Key.Path, q.Key.Path), cmp.Compare(q.Key.At, p.Key.At))
		})
		l = slices.CompactFunc(l, func(p, q api.Pair) bool { return p.Key == q.Key })
		checkFollows(t, l, api.Pair{Key: k, Val: "new"})
	})
}
