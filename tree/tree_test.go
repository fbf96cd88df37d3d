package tree_test

import (
	"math"
	"slices"
	"strconv"
	"strings"
	"testing"

	"sexton/api"
	"sexton/tree"
)

const latest = 1000000000

func at(path string, time int) api.Key { return api.Key{Path: path, At: time} }

func pair(path string, time int, val string) api.Pair {
	return api.Pair{Key: at(path, time), Val: val}
}

// risingKeys rise, by hand: keys that may be, and in between them structs that may not.
// No struct stands ahead of the first one, and none behind the last but one of a greater path.
func risingKeys() []api.Key {
	return []api.Key{
		at("", math.MaxInt), at("", latest), at("", 7), at("", 0), at("", -1), at("", math.MinInt), at("\x00", 3), at("..", 3), at("/", 3),
		at("a", math.MaxInt), at("a", 1<<32+3), at("a", latest+1), at("a", latest), at("a", 5), at("a", 4), at("a", 3), at("a", 0), at("a", -1), at("a", math.MinInt),
		at("a\x00", 5), at("a!", 9), at("a/", 5), at("a//b", 1), at("a/b", 9), at("a/b", 2), at("a/b/c", 6), at("a0", 4), at("ab", 1), at("ab", 0), at("b", 5),
		at(strings.Repeat("n", 31), 1), at(strings.Repeat("p", 101), 1), at("z", 8), at("é", 2), at("\xff", 7), at("\xff\xff", latest), at("\xff\xff", math.MinInt),
	}
}

// numbered is a row of these keys, each pair with a Val of its own.
func numbered(keys ...api.Key) []api.Pair {
	var l []api.Pair
	for i, k := range keys {
		l = append(l, api.Pair{Key: k, Val: "v" + strconv.Itoa(i)})
	}
	return l
}

// many is a row of n pairs that rise, three of each path: keys of one path differ in At alone.
func many(n int) []api.Pair {
	var l []api.Pair
	for i := range n {
		l = append(l, pair("p"+strconv.Itoa(1000000+i/3), 90-i%3*10, "v"+strconv.Itoa(i)))
	}
	return l
}

// rows are what a tree may have: they rise.
func rows() map[string][]api.Pair {
	return map[string][]api.Pair{
		"none":                 nil,
		"one":                  numbered(at("b", 3)),
		"two":                  numbered(at("a", 3), at("c", 3)),
		"three":                numbered(at("a", 3), at("b", 3), at("c", 3)),
		"one path":             numbered(at("b", 9), at("b", 5), at("b", 4), at("b", 0)),
		"two paths":            numbered(at("a", 2), at("a", 1), at("b", latest), at("b", 0)),
		"one path, many times": versions(50),
		"the root":             numbered(at("", latest), at("", 0)),
		"keys that may not be": numbered(at("", -1), at("..", 5), at("b", math.MaxInt), at("b", math.MinInt), at("b/", 4), at("b\xff", latest+1)),
		"the empty key":        {{}},
		"all keys":             numbered(risingKeys()...),
		"one Val":              {pair("a", 3, "v"), pair("b", 3, "v"), pair("c", 3, "v")},
		"no Vals":              {pair("a", 3, ""), pair("b", 3, ""), pair("c", 3, "")},
		"Vals that fall":       {pair("a", 3, "z"), pair("b", 3, "m\x00"), pair("c", 3, "\xff"), pair("d", 3, "")},
		"a Val of a megabyte":  {pair("a", 3, strings.Repeat("x", 1<<20)), pair("b", 3, "v")},
		"8":                    many(8),
		"9":                    many(9),
		"20":                   many(20),
		"100":                  many(100),
		"101":                  many(101),
		"1000":                 many(1000),
	}
}

// versions is a row of n pairs of one path, with gaps between their times.
func versions(n int) []api.Pair {
	var l []api.Pair
	for i := range n {
		l = append(l, pair("b", 3*(n-i), "v"+strconv.Itoa(i)))
	}
	return l
}

// askedKeys are all of risingKeys, and some that stand in no row.
func askedKeys() []api.Key {
	keys := risingKeys()
	for _, path := range []string{"", "a", "aa", "b", "b/", "c", "p1000000", "p1000002", "p1000016", "p1000033", "p1000333", "zz"} {
		for _, time := range []int{math.MinInt, -1, 0, 1, 2, 3, 4, 5, 9, 70, 75, 80, 90, 91, latest, latest + 1, math.MaxInt} {
			keys = append(keys, at(path, time))
		}
	}
	return keys
}

// The document's words, told by other means than the program's.

func ahead(a, b api.Key) bool {
	return a.Path < b.Path || a.Path == b.Path && a.At > b.At
}

// place is how many of l stand ahead of k, and whether k stands there.
func place(l []api.Pair, k api.Key) (n int, is bool) {
	for _, p := range l {
		if ahead(p.Key, k) {
			n++
		}
		is = is || p.Key == k
	}
	return n, is
}

func withPut(l []api.Pair, p api.Pair) []api.Pair {
	n, is := place(l, p.Key)
	if is {
		c := slices.Clone(l)
		c[n] = p
		return c
	}
	return slices.Insert(slices.Clone(l), n, p)
}

func withDropped(l []api.Pair, k api.Key) []api.Pair {
	n, is := place(l, k)
	if !is {
		return l
	}
	return slices.Delete(slices.Clone(l), n, n+1)
}

func got(l []api.Pair, k api.Key) (string, bool) {
	n, is := place(l, k)
	if !is {
		return "", false
	}
	return l[n].Val, true
}

func from(l []api.Pair, k api.Key, n int) []api.Pair {
	var m []api.Pair
	for _, p := range l {
		if !ahead(p.Key, k) && len(m) < n {
			m = append(m, p)
		}
	}
	return m
}

func showKey(k api.Key) string { return short(strconv.QuoteToASCII(k.Path)) + " " + strconv.Itoa(k.At) }

func show(l []api.Pair) string {
	var b strings.Builder
	for _, p := range l {
		b.WriteString("[" + showKey(p.Key) + ": " + short(strconv.QuoteToASCII(p.Val)) + "]")
	}
	return strconv.Itoa(len(l)) + " pairs " + short(b.String())
}

// short cuts a long text so that a failure can be read.
func short(s string) string {
	if len(s) > 300 {
		return s[:300] + ".."
	}
	return s
}

// made is a tree of these pairs, put one behind the other.
func made(l []api.Pair) *tree.Tree {
	x := tree.New()
	for _, p := range l {
		x = x.Put(p)
	}
	return x
}

// checkPairs is of P10.1, and with another promise's number of that one: a tree has these pairs.
func checkPairs(t *testing.T, promise, what string, x *tree.Tree, want []api.Pair) {
	t.Helper()
	if m := x.All(); !slices.Equal(m, want) {
		t.Errorf("%s: %s: All: %s; want %s", promise, what, show(m), show(want))
	}
	if n := x.Len(); n != len(want) {
		t.Errorf("%s: %s: Len: %d; want %d", promise, what, n, len(want))
	}
	checkDepth(t, what, x, len(want))
}

func checkDepth(t *testing.T, what string, x *tree.Tree, pairs int) {
	t.Helper()
	d := x.Depth()
	if d < 1 || d > 40 || pairs < 2 && d != 1 || pairs > 1 && 1<<(d-1) > pairs {
		t.Errorf("P10.3: %s: Depth of %d pairs: %d", what, pairs, d)
	}
}

func checkGet(t *testing.T, what string, x *tree.Tree, k api.Key, want string, wantIs bool) {
	t.Helper()
	if s, is := x.Get(k); s != want || is != wantIs {
		t.Errorf("P10.2: %s: Get of %s: %s, %v; want %s, %v", what, showKey(k), short(strconv.QuoteToASCII(s)), is, short(strconv.QuoteToASCII(want)), wantIs)
	}
}

func checkFrom(t *testing.T, what string, x *tree.Tree, k api.Key, n int, want []api.Pair) {
	t.Helper()
	if m := x.From(k, n); !slices.Equal(m, want) {
		t.Errorf("P10.2: %s: From of %s, %d: %s; want %s", what, showKey(k), n, show(m), show(want))
	}
}

// checkAsked holds Get and From of a key, with each edge of From's n, against the words told by other means.
func checkAsked(t *testing.T, what string, x *tree.Tree, l []api.Pair, k api.Key) {
	t.Helper()
	s, is := got(l, k)
	checkGet(t, what, x, k, s, is)
	ahead, _ := place(l, k)
	left := len(l) - ahead
	for _, n := range []int{math.MinInt, -left, -1, 0, 1, 2, 8, left / 2, left - 1, left, left + 1, len(l), len(l) + 1, 1 << 32, math.MaxInt - 1, math.MaxInt} {
		checkFrom(t, what, x, k, n, from(l, k, n))
	}
}

// checkChanged holds a key's Put and Drop against the words told by other means, and what they were made of against what it was.
func checkChanged(t *testing.T, what string, x *tree.Tree, l []api.Pair, k api.Key) {
	t.Helper()
	p := api.Pair{Key: k, Val: "new"}
	checkPairs(t, "P10.1", what+": "+showKey(k)+" put", x.Put(p), withPut(l, p))
	checkPairs(t, "P10.1", what+": "+showKey(k)+" dropped", x.Drop(k), withDropped(l, k))
	checkPairs(t, "P10.4", what+": "+showKey(k)+" put and dropped", x, l)
}

func TestExamples(t *testing.T) {
	a, b := pair("a", 2, "2"), pair("b", 1, "1")
	x := tree.New().Put(b).Put(a)
	checkPairs(t, "P10.1", "the example", x, []api.Pair{a, b})
	y := x.Drop(a.Key)
	if y.Len() != 1 || x.Len() != 2 {
		t.Errorf("P10.4: Len of what a drop tells, and of what it was made of: %d, %d; want 1, 2", y.Len(), x.Len())
	}
}

// noTrees are those without pairs: nil, a new one, and some that had pairs.
func noTrees() map[string]*tree.Tree {
	had := made(many(30))
	for _, p := range many(30) {
		had = had.Drop(p.Key)
	}
	var none *tree.Tree
	return map[string]*tree.Tree{
		"nil":                   nil,
		"new":                   tree.New(),
		"nil, with one dropped": none.Drop(at("a", 3)),
		"new, with one dropped": tree.New().Drop(at("a", 3)),
		"one put, and dropped":  tree.New().Put(pair("a", 3, "v")).Drop(at("a", 3)),
		"30 put, and dropped":   had,
	}
}

func TestNoPairs(t *testing.T) {
	for what, x := range noTrees() {
		checkPairs(t, "P10.1", what, x, nil)
		if d := x.Depth(); d != 1 {
			t.Errorf("P10.3: %s: Depth: %d; want 1", what, d)
		}
		for _, k := range askedKeys() {
			checkGet(t, what, x, k, "", false)
			for _, n := range []int{math.MinInt, -1, 0, 1, 2, math.MaxInt} {
				checkFrom(t, what, x, k, n, nil)
			}
			p := api.Pair{Key: k, Val: "v"}
			y := x.Put(p)
			checkPairs(t, "P10.1", what+": one put", y, []api.Pair{p})
			checkGet(t, what+": one put", y, k, "v", true)
			checkFrom(t, what+": one put", y, k, 1, []api.Pair{p})
			checkPairs(t, "P10.1", what+": none dropped", x.Drop(k), nil)
			checkPairs(t, "P10.4", what+": behind Put and Drop", x, nil)
		}
	}
}

func TestPutAndDropByHand(t *testing.T) {
	x := made([]api.Pair{pair("b", 5, "1"), pair("d", 5, "2"), pair("b", 3, "3")})
	checkPairs(t, "P10.1", "three", x, []api.Pair{pair("b", 5, "1"), pair("b", 3, "3"), pair("d", 5, "2")})
	for what, c := range map[string]struct {
		p    api.Pair
		want []api.Pair
	}{
		"ahead of all":          {pair("a", 5, "n"), []api.Pair{pair("a", 5, "n"), pair("b", 5, "1"), pair("b", 3, "3"), pair("d", 5, "2")}},
		"ahead, of one path":    {pair("b", 6, "n"), []api.Pair{pair("b", 6, "n"), pair("b", 5, "1"), pair("b", 3, "3"), pair("d", 5, "2")}},
		"the first again":       {pair("b", 5, "n"), []api.Pair{pair("b", 5, "n"), pair("b", 3, "3"), pair("d", 5, "2")}},
		"between, of one path":  {pair("b", 4, "n"), []api.Pair{pair("b", 5, "1"), pair("b", 4, "n"), pair("b", 3, "3"), pair("d", 5, "2")}},
		"the middle one again":  {pair("b", 3, ""), []api.Pair{pair("b", 5, "1"), pair("b", 3, ""), pair("d", 5, "2")}},
		"its own Val again":     {pair("b", 3, "3"), []api.Pair{pair("b", 5, "1"), pair("b", 3, "3"), pair("d", 5, "2")}},
		"behind, of one path":   {pair("b", 0, "n"), []api.Pair{pair("b", 5, "1"), pair("b", 3, "3"), pair("b", 0, "n"), pair("d", 5, "2")}},
		"a name below":          {pair("b/c", 9, "n"), []api.Pair{pair("b", 5, "1"), pair("b", 3, "3"), pair("b/c", 9, "n"), pair("d", 5, "2")}},
		"the last again":        {pair("d", 5, "n"), []api.Pair{pair("b", 5, "1"), pair("b", 3, "3"), pair("d", 5, "n")}},
		"behind all":            {pair("e", 5, "n"), []api.Pair{pair("b", 5, "1"), pair("b", 3, "3"), pair("d", 5, "2"), pair("e", 5, "n")}},
		"a path that is none":   {pair("b//", 9, "n"), []api.Pair{pair("b", 5, "1"), pair("b", 3, "3"), pair("b//", 9, "n"), pair("d", 5, "2")}},
		"a time below 0":        {pair("b", -1, "n"), []api.Pair{pair("b", 5, "1"), pair("b", 3, "3"), pair("b", -1, "n"), pair("d", 5, "2")}},
		"a time that is no one": {pair("d", latest+1, "n"), []api.Pair{pair("b", 5, "1"), pair("b", 3, "3"), pair("d", latest+1, "n"), pair("d", 5, "2")}},
		"the empty key":         {api.Pair{}, []api.Pair{{}, pair("b", 5, "1"), pair("b", 3, "3"), pair("d", 5, "2")}},
	} {
		checkPairs(t, "P10.1", what, x.Put(c.p), c.want)
		checkPairs(t, "P10.1", what+", and dropped", x.Put(c.p).Drop(c.p.Key), withDropped(c.want, c.p.Key))
	}
	checkPairs(t, "P10.1", "the first dropped", x.Drop(at("b", 5)), []api.Pair{pair("b", 3, "3"), pair("d", 5, "2")})
	checkPairs(t, "P10.1", "the middle one dropped", x.Drop(at("b", 3)), []api.Pair{pair("b", 5, "1"), pair("d", 5, "2")})
	checkPairs(t, "P10.1", "the last dropped", x.Drop(at("d", 5)), []api.Pair{pair("b", 5, "1"), pair("b", 3, "3")})
	for _, k := range []api.Key{at("a", 5), at("b", 6), at("b", 4), at("b", 2), at("b", -5), at("d", 6), at("d", 4), at("e", 5), at("", 0), at("b/", 5)} {
		checkPairs(t, "P10.1", "one that is not there dropped", x.Drop(k), x.All())
	}
	checkPairs(t, "P10.4", "behind all of it", x, []api.Pair{pair("b", 5, "1"), pair("b", 3, "3"), pair("d", 5, "2")})
}

func TestGetAndFromByHand(t *testing.T) {
	l := []api.Pair{pair("b", 5, "1"), pair("b", 3, ""), pair("d", 5, "3")}
	x := made(l)
	checkPairs(t, "P10.2", "by hand", x, l)
	for _, c := range []struct {
		k     api.Key
		ahead int
		val   string
		is    bool
	}{
		{at("", latest), 0, "", false}, {at("a", 5), 0, "", false}, {at("b", 6), 0, "", false}, {at("b", math.MaxInt), 0, "", false},
		{at("b", 5), 0, "1", true}, {at("b", 4), 1, "", false}, {at("b", 3), 1, "", true}, {at("b", 2), 2, "", false}, {at("b", -5), 2, "", false},
		{at("b/", 9), 2, "", false}, {at("c", 5), 2, "", false}, {at("d", 6), 2, "", false}, {at("d", 5), 2, "3", true},
		{at("d", 4), 3, "", false}, {at("d", math.MinInt), 3, "", false}, {at("e", 5), 3, "", false}, {at("\xff", latest), 3, "", false},
	} {
		checkGet(t, "by hand", x, c.k, c.val, c.is)
		left := l[c.ahead:]
		for _, n := range []int{math.MinInt, -2, -1, 0} {
			checkFrom(t, "by hand", x, c.k, n, nil)
		}
		checkFrom(t, "by hand", x, c.k, 1, left[:min(1, len(left))])
		checkFrom(t, "by hand", x, c.k, 2, left[:min(2, len(left))])
		for _, n := range []int{3, 4, 1 << 32, math.MaxInt} {
			checkFrom(t, "by hand", x, c.k, n, left)
		}
	}
}

// No key stands ahead of this one: All and From tell it as they tell others.
func TestTheFirstKeyOfAll(t *testing.T) {
	first, next := pair("", math.MaxInt, "first"), pair("", math.MaxInt-1, "next")
	for _, l := range [][]api.Pair{nil, many(1), many(30)} {
		x := made(l).Put(next).Put(first)
		want := slices.Concat([]api.Pair{first, next}, l)
		checkPairs(t, "P10.2", "the first key of all", x, want)
		checkAsked(t, "the first key of all", x, want, first.Key)
		checkAsked(t, "the first key of all", x, want, next.Key)
		checkPairs(t, "P10.1", "the first key of all, dropped", x.Drop(first.Key), want[1:])
	}
}

func TestAllKeysOfAllRows(t *testing.T) {
	keys := askedKeys()
	for what, l := range rows() {
		x := made(l)
		checkPairs(t, "P10.1", what, x, l)
		for _, k := range keys {
			checkAsked(t, what, x, l, k)
			checkChanged(t, what, x, l, k)
		}
		// One row's failures tell enough.
		if t.Failed() {
			return
		}
	}
}

// near are the pairs' own keys, and those that stand next to them, on both sides.
func near(l []api.Pair) []api.Key {
	var keys []api.Key
	for _, p := range l {
		keys = append(keys, p.Key, at(p.Key.Path, p.Key.At+1), at(p.Key.Path, p.Key.At-1))
	}
	return append(keys, at("", latest), at("\xff", 0))
}

// orders are ways to go through n pairs: each comes to all of them.
func orders(n int) map[string][]int {
	m := map[string][]int{}
	for i := range n {
		m["rising"] = append(m["rising"], i)
		m["falling"] = append(m["falling"], n-1-i)
		inwards := i / 2
		if i%2 == 1 {
			inwards = n - 1 - i/2
		}
		m["inwards"] = append(m["inwards"], inwards)
	}
	m["outwards"] = slices.Clone(m["inwards"])
	slices.Reverse(m["outwards"])
	for _, step := range []int{3, 5, 11} {
		what := "by steps of " + strconv.Itoa(step)
		for first := range step {
			for i := first; i < n; i += step {
				m[what] = append(m[what], i)
			}
		}
	}
	var mixed []int
	for i, seed := 0, uint32(n); i < n; i++ {
		seed = seed*1664525 + 1013904223
		mixed = slices.Insert(mixed, int(seed>>8)%(i+1), i)
	}
	m["mixed"] = mixed
	return m
}

func TestPutInEveryOrder(t *testing.T) {
	for _, n := range []int{0, 1, 2, 3, 4, 5, 6, 7, 8, 9, 10, 11, 12, 13, 15, 16, 17, 18, 24, 31, 32, 33, 40, 63, 64, 65, 66, 100, 129, 150, 300} {
		l := many(n)
		for what, order := range orders(n) {
			x := tree.New()
			var now []api.Pair
			for _, i := range order {
				x = x.Put(l[i])
				now = withPut(now, l[i])
				checkPairs(t, "P10.1", what, x, now)
			}
			checkPairs(t, "P10.4", what, x, l)
			if t.Failed() {
				return
			}
		}
	}
}

func TestDropInEveryOrder(t *testing.T) {
	for _, n := range []int{1, 2, 4, 7, 8, 9, 10, 13, 16, 17, 20, 33, 40, 65, 81, 130} {
		l := many(n)
		for put, order := range orders(n) {
			full := tree.New()
			for _, i := range order {
				full = full.Put(l[i])
			}
			for drop, order := range orders(n) {
				x, now := full, l
				for _, i := range order {
					x, now = x.Drop(l[i].Key), withDropped(now, l[i].Key)
					checkPairs(t, "P10.1", "put "+put+", dropped "+drop, x, now)
				}
				checkPairs(t, "P10.4", "put "+put+", dropped "+drop+": what it was made of", full, l)
				if t.Failed() {
					return
				}
			}
		}
	}
}

// What is put in any order at all, up to so many pairs.
func TestEveryOrderOfFewPairs(t *testing.T) {
	l := slices.Concat(many(5), []api.Pair{pair("q", 3, "x"), pair("q", -3, "y")})
	var rest func(x *tree.Tree, left []api.Pair)
	rest = func(x *tree.Tree, left []api.Pair) {
		if len(left) == 0 {
			checkPairs(t, "P10.4", "every order", x, l)
		}
		for i := range left {
			if t.Failed() {
				return
			}
			rest(x.Put(left[i]), slices.Delete(slices.Clone(left), i, i+1))
		}
	}
	rest(tree.New(), l)
}

// Every row of four calls, on trees of few pairs.
func TestEveryRowOfFewCalls(t *testing.T) {
	for _, n := range []int{0, 3, 9, 12, 14} {
		l := many(n)
		keys := []api.Key{at("", 5), at("p1000000", 90), at("p1000001", 85), at("p1000001", 80), at("p1000003", 90), at("q", 1)}
		var rest func(x *tree.Tree, now []api.Pair, calls int)
		rest = func(x *tree.Tree, now []api.Pair, calls int) {
			checkPairs(t, "P10.1", "few calls", x, now)
			if calls == 4 {
				return
			}
			for _, k := range keys {
				if t.Failed() {
					return
				}
				p := api.Pair{Key: k, Val: "c" + strconv.Itoa(calls)}
				rest(x.Put(p), withPut(now, p), calls+1)
				rest(x.Drop(k), withDropped(now, k), calls+1)
			}
		}
		rest(made(l), l, 0)
	}
}

// At each size, and in trees made in each order, each key is asked, put and dropped.
func TestEachKeyAtEachSize(t *testing.T) {
	for n := range 45 {
		l := many(n)
		for what, order := range orders(n) {
			x := tree.New()
			for _, i := range order {
				x = x.Put(l[i])
			}
			for _, k := range near(l) {
				checkChanged(t, what, x, l, k)
			}
			if t.Failed() {
				return
			}
		}
		x := made(l)
		for _, k := range near(l) {
			checkAsked(t, "each key", x, l, k)
		}
	}
	l := versions(150)
	x := made(l)
	for _, k := range near(l) {
		checkAsked(t, "each version", x, l, k)
		checkChanged(t, "each version", x, l, k)
	}
}

func TestPutAgain(t *testing.T) {
	for _, n := range []int{1, 2, 8, 9, 40, 100} {
		l := many(n)
		x := made(l)
		for i := range l {
			for _, val := range []string{"", l[i].Val, "\x00", "\xff\xfe", "é", strings.Repeat("x", 4001)} {
				p := api.Pair{Key: l[i].Key, Val: val}
				want := slices.Clone(l)
				want[i] = p
				y := x.Put(p)
				checkPairs(t, "P10.1", "put again", y, want)
				checkGet(t, "put again", y, p.Key, val, true)
				checkGet(t, "what it was put into", x, p.Key, l[i].Val, true)
			}
		}
	}
}

func TestDropOfWhatIsNotThere(t *testing.T) {
	for what, l := range rows() {
		x := made(l)
		for _, k := range near(l) {
			if _, is := got(l, k); !is {
				checkPairs(t, "P10.1", what+": drop of one that is not there", x.Drop(k), l)
			}
		}
		if t.Failed() {
			return
		}
	}
}

func TestDepth(t *testing.T) {
	for what, x := range noTrees() {
		if d := x.Depth(); d != 1 {
			t.Errorf("P10.3: %s: Depth: %d; want 1", what, d)
		}
		if d := x.Put(pair("a", 3, "v")).Depth(); d != 1 {
			t.Errorf("P10.3: %s, with one put: Depth: %d; want 1", what, d)
		}
	}
	// What has but one left is as shallow as what never had more.
	for left := range 100 {
		x := made(many(100))
		for i, p := range many(100) {
			if i != left {
				x = x.Drop(p.Key)
			}
		}
		if d := x.Depth(); d != 1 || x.Len() != 1 {
			t.Errorf("P10.3: one of a hundred left: Depth of %d pairs: %d; want 1", x.Len(), d)
		}
	}
}

func TestManyPairs(t *testing.T) {
	const n = 10000
	l := many(n)
	for what, order := range orders(n) {
		x := tree.New()
		for _, i := range order {
			x = x.Put(l[i])
		}
		checkPairs(t, "P10.1", what, x, l)
		if x.Depth() == 1 {
			t.Errorf("P10.3: %s: Depth of %d pairs: 1: its vertices are not cut", what, n)
		}
		for i := 0; i < n; i += 997 {
			checkGet(t, what, x, l[i].Key, l[i].Val, true)
			checkFrom(t, what, x, l[i].Key, 10, l[i:min(i+10, n)])
			checkFrom(t, what, x, l[i].Key, math.MaxInt, l[i:])
		}
		if what == "mixed" {
			for k, i := range order {
				x = x.Drop(l[i].Key)
				if x.Len() != n-k-1 {
					t.Fatalf("P10.1: %s: %d pairs behind %d drops", what, x.Len(), k+1)
				}
				checkDepth(t, what, x, n-k-1)
			}
		}
		if t.Failed() {
			return
		}
	}
}

// stage is a tree, and the pairs that it is to have.
type stage struct {
	x *tree.Tree
	l []api.Pair
}

// history is each tree on the way to n pairs, and on the way back to none.
func history(n int, put, drop string) []stage {
	l := many(n)
	now := stage{x: tree.New()}
	all := []stage{{}, now}
	for _, i := range orders(n)[put] {
		now = stage{now.x.Put(l[i]), withPut(now.l, l[i])}
		all = append(all, now)
	}
	for _, i := range orders(n)[drop] {
		now = stage{now.x.Drop(l[i].Key), withDropped(now.l, l[i].Key)}
		all = append(all, now)
	}
	return all
}

func TestWhatThereWasStays(t *testing.T) {
	for put := range orders(1) {
		for drop := range orders(1) {
			for i, s := range history(70, put, drop) {
				checkPairs(t, "P10.4", "put "+put+", dropped "+drop+": stage "+strconv.Itoa(i), s.x, s.l)
			}
			if t.Failed() {
				return
			}
		}
	}
}

// Each tree that there was is gone on from, by each key; and all of them still are what they were.
func TestEachTreeIsGoneOnFrom(t *testing.T) {
	checkGoneOnFrom(t, history(30, "mixed", "by steps of 3"), near(many(30)))
	var keys []api.Key
	for i, k := range near(many(130)) {
		if i%19 == 0 {
			keys = append(keys, k)
		}
	}
	checkGoneOnFrom(t, history(130, "inwards", "mixed"), keys)
}

func checkGoneOnFrom(t *testing.T, all []stage, keys []api.Key) {
	t.Helper()
	var on []stage
	for _, s := range all {
		for _, k := range keys {
			p := api.Pair{Key: k, Val: "new"}
			on = append(on, stage{s.x.Put(p), withPut(s.l, p)}, stage{s.x.Drop(k), withDropped(s.l, k)})
		}
	}
	for _, s := range slices.Concat(all, on) {
		checkPairs(t, "P10.4", "gone on from", s.x, s.l)
		for i := 0; i < len(keys); i += 17 {
			v, is := got(s.l, keys[i])
			checkGet(t, "gone on from", s.x, keys[i], v, is)
		}
		if t.Failed() {
			return
		}
	}
}

// overwrite changes all that an answer holds, and the room behind it.
func overwrite(l []api.Pair) {
	l = l[:cap(l)]
	for i := range l {
		l[i] = pair("changed", -7, "changed")
	}
}

// answers are rows that the calls tell of a tree.
func answers(x *tree.Tree, keys []api.Key) [][]api.Pair {
	all := [][]api.Pair{x.All(), x.All()}
	for _, k := range keys {
		for _, n := range []int{-1, 0, 1, 3, x.Len(), math.MaxInt} {
			all = append(all, x.From(k, n), x.From(k, n))
		}
	}
	return all
}

// An answer stands on its own: neither on a tree's memory, nor on that of another answer.
func TestAnswersStandAlone(t *testing.T) {
	for _, s := range history(40, "inwards", "mixed") {
		keys := near(s.l[:min(len(s.l), 12)])
		all := answers(s.x, keys)
		want := make([][]api.Pair, len(all))
		for i, row := range all {
			want[i] = slices.Clone(row)
		}
		for i, row := range all {
			if !slices.Equal(row, want[i]) {
				t.Fatalf("R2: answer %d shares memory: %s", i, show(row))
			}
			overwrite(row)
		}
		checkPairs(t, "P10.4", "what was told is written over", s.x, s.l)
	}
	// And none of the others that share with it is another one by that.
	all := history(40, "rising", "falling")
	for _, s := range all {
		for _, row := range answers(s.x, near(s.l[:min(len(s.l), 3)])) {
			overwrite(row)
		}
	}
	for _, s := range all {
		checkPairs(t, "P10.4", "what was told is written over", s.x, s.l)
	}
}

func TestEqualCallsAnswerAlike(t *testing.T) {
	for put := range orders(1) {
		one, other := history(30, put, "by steps of 5"), history(30, put, "by steps of 5")
		for i := range one {
			x, y := one[i].x, other[i].x
			if x.Depth() != y.Depth() || x.Len() != y.Len() || !slices.Equal(x.All(), y.All()) {
				t.Fatalf("R2: %s, stage %d: two trees made alike are not alike", put, i)
			}
			keys := near(one[i].l[:min(len(one[i].l), 5)])
			if !slices.EqualFunc(answers(x, keys), answers(y, keys), slices.Equal[[]api.Pair]) || !slices.EqualFunc(answers(x, keys), answers(x, keys), slices.Equal[[]api.Pair]) {
				t.Fatalf("R2: %s, stage %d: two calls alike are not answered alike", put, i)
			}
		}
	}
}

// keyOf tells a key by two bytes: most of them are of few paths and times, so that keys stand there again.
func keyOf(a, b byte) api.Key {
	paths := []string{"a", "a/b", "b", "", "..", "a!", "a\x00", "b/"}
	times := []int{math.MaxInt, latest + 1, latest, -1, math.MinInt}
	time := int(b)
	if time < len(times) {
		time = times[time]
	}
	return at(paths[int(a)%len(paths)], time)
}

// FuzzCalls goes through calls, three bytes each: each is one of some tree that there was.
func FuzzCalls(f *testing.F) {
	f.Add([]byte{}, 1)
	f.Add([]byte{0, 1, 9, 0, 1, 8, 2, 1, 9}, 2)
	var long []byte
	for i := range 120 {
		long = append(long, byte(i/100), byte(i%3), byte(i*37))
	}
	f.Add(long, 1<<32)
	f.Fuzz(func(t *testing.T, calls []byte, n int) {
		calls = calls[:min(len(calls), 1500)]
		all := []stage{{}}
		for ; len(calls) >= 3; calls = calls[3:] {
			s := all[len(all)-1]
			if calls[0] >= 128 {
				s = all[int(calls[0])%len(all)]
			}
			p := api.Pair{Key: keyOf(calls[1], calls[2]), Val: strconv.Itoa(len(all))}
			if calls[0]%4 == 2 {
				s = stage{s.x.Drop(p.Key), withDropped(s.l, p.Key)}
			} else {
				s = stage{s.x.Put(p), withPut(s.l, p)}
			}
			all = append(all, s)
			checkPairs(t, "P10.1", "fuzz", s.x, s.l)
			v, is := got(s.l, p.Key)
			checkGet(t, "fuzz", s.x, p.Key, v, is)
			checkFrom(t, "fuzz", s.x, p.Key, n, from(s.l, p.Key, n))
			overwrite(s.x.All())
		}
		for _, s := range all {
			checkPairs(t, "P10.4", "fuzz", s.x, s.l)
		}
	})
}
