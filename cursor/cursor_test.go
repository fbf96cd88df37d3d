package cursor_test

import (
	"math"
	"slices"
	"strconv"
	"strings"
	"testing"

	"sexton/api"
	"sexton/cursor"
	"sexton/tree"
)

const latest = 1000000000

var (
	name30 = strings.Repeat("n", 30)
	// path98, path100 and path101 differ in their last name alone; no path is greater than greatest.
	path98   = strings.Join([]string{name30, name30, name30, "12345"}, "/")
	path100  = path98 + "67"
	path101  = path98 + "678"
	greatest = strings.Join([]string{strings.Repeat("\xff", 30), strings.Repeat("\xff", 30), strings.Repeat("\xff", 30), strings.Repeat("\xff", 7)}, "/")
)

func at(path string, time int) api.Key { return api.Key{Path: path, At: time} }

func pair(path string, time int, val string) api.Pair {
	return api.Pair{Key: at(path, time), Val: val}
}

// numbered is a row of these keys, each pair with a Val of its own.
func numbered(keys ...api.Key) []api.Pair {
	var l []api.Pair
	for i, k := range keys {
		l = append(l, api.Pair{Key: k, Val: "v" + strconv.Itoa(i)})
	}
	return l
}

// forest is a row of many kinds of pairs that rise: byte for byte those of `a!`, `a-` and `a.` stand between those of `a` and of `a/b`.
func forest() []api.Pair {
	return numbered(
		at("", 4), at("", 1),
		at("a", 9), at("a", 5), at("a", 3),
		at("a!", 8), at("a!/b", 8), at("a-", 6), at("a.", 2),
		at("a/b", 7), at("a/b", 2), at("a/b!", 3), at("a/b/c", 1), at("a/b0", 5), at("a/\xff", 4),
		at("a0", 4), at("a0/b", 4), at("ab", 2), at("ab/c", 2),
		at("b/c", 5), at("b/c/d", 5), at("b/e", 3), at("b/e", 1),
		at("d", 6),
	)
}

// oddForest is a row that rises, of keys that may be and of others: paths that are none, and times that are none.
func oddForest() []api.Pair {
	return sorted(numbered(
		at("", math.MaxInt), at("", latest), at("", -1), at("", math.MinInt), at("\x00", 3), at(".", 3), at("..", 3), at("/", 3), at("/a", 3),
		at("a", math.MaxInt), at("a", latest+1), at("a", latest), at("a", 5), at("a", 0), at("a", -1), at("a", math.MinInt), at("a\x00", math.MaxInt), at("a\x00", 3), at("a\x00b", 3),
		at("a!", 3), at("a/", math.MaxInt), at("a/", 3), at("a/\x00", 3), at("a/.", 3), at("a/..", 3), at("a/../b", 3), at("a/./b", 3), at("a//", 3), at("a//b", 3),
		at("a/b", math.MaxInt), at("a/b", math.MinInt), at("a/b\x00", 3), at("a/b!", 3), at("a/b/", 3), at("a/b/c", -9), at("a/b/c/", 3), at("a/"+name30, 3), at("a/"+name30+"n", 3),
		at("a0", math.MaxInt), at("a0", 3), at("ab", 1<<32), at("ab/", 3), at("b/", 3), at("b//", 3), at("b/c", -1), at("b/c\x00", 3),
		at(name30, 3), at(name30+"n", 3), at(path98, 3), at(path98+"/", 3), at(path98+"/6", 3), at(path98+"/67", 3), at(path98[:97], 3), at(path100[:99], 3), at(path100[:99]+"/6", 3), at(path100, 3), at(path101, 3),
		at("\xff", 3), at(greatest, math.MinInt), at(greatest+"\x00", 3), at(greatest+"\xff", 3), at(strings.Repeat("\xff", 101), math.MaxInt), at(strings.Repeat("\xff", 101), 3), at(strings.Repeat("\xff", 200), 3),
	))
}

// versions is a row of n pairs of one path, with gaps between their times.
func versions(path string, n int) []api.Pair {
	var l []api.Pair
	for i := range n {
		l = append(l, pair(path, 3*(n-i), "v"+strconv.Itoa(i)))
	}
	return l
}

// many is a row of n pairs, three of each path; some paths are under `a`, some beside it.
func many(n int) []api.Pair {
	var l []api.Pair
	for i := range n {
		path := []string{"a", "a!", "a/b", "a/b/c", "ab"}[i%5] + []string{"", "/x", "/y/z"}[i/5%3] + strconv.Itoa(1000000+i/45)
		l = append(l, pair(path, 90-i/15%3*10, "v"+strconv.Itoa(i)))
	}
	return sorted(l)
}

// rows are what a tree may have: they rise.
func rows() map[string][]api.Pair {
	return map[string][]api.Pair{
		"none":                        nil,
		"one":                         numbered(at("a", 3)),
		"one below":                   numbered(at("a/b", 3)),
		"one elsewhere":               numbered(at("ab", 3)),
		"one of the root":             numbered(at("", 3)),
		"one that may not be":         numbered(at("a/", 3)),
		"one path":                    numbered(at("a", 9), at("a", 5), at("a", 0)),
		"the root, many times":        versions("", 40),
		"one path, many times":        versions("a", 40),
		"a path below, many times":    versions("a/b", 40),
		"many between":                slices.Concat(numbered(at("a", 3)), versions("a!", 30), versions("a-", 30), numbered(at("a/b", 3)), versions("a0", 30)),
		"the example":                 numbered(at("a", 5), at("a", 3), at("a/b", 1), at("ab", 2)),
		"forest":                      forest(),
		"forest of keys that may not": oddForest(),
		"many":                        many(300),
	}
}

// dirs are paths: some have pairs of their own in some of the rows, some only pairs below, some none.
func dirs() []string {
	return []string{
		"", "a", "a!", "a-", "a/b", "a/b/c", "a/b/c/d", "a/b!", "a/\xff", "a/x", "a0", "ab", "ab/c", "aa", "b", "b/c", "b/e", "d", "x", "\x01", "\xff", "...",
		"a1000000", "a/b/x1000002", "a/b/c/y", name30, path98, path98 + "6", path98 + "/6", path98[:92], path100, greatest[:30], greatest, strings.Repeat("a/", 49) + "a",
	}
}

// noDirs are no paths.
func noDirs() []string {
	return []string{
		"/", "//", "/a", "a/", "a//b", "a/b/", ".", "..", "./a", "a/.", "a/..", "a/../b", "\x00", "a\x00", "a/\x00b", name30 + "n", "a/" + name30 + "n",
		path101, path98 + "/67", path100[:99] + "/6", strings.Repeat("a/", 50) + "a", strings.Repeat("\xff", 101), strings.Repeat("x", 1<<20),
	}
}

// askedKeys are those of the forests, and some that stand in no row; none stands ahead of the first one.
func askedKeys() []api.Key {
	keys := []api.Key{at("", math.MaxInt), {}}
	for _, p := range slices.Concat(forest(), oddForest()) {
		keys = append(keys, p.Key)
	}
	for _, path := range []string{"", "a", "a ", "a!", "a/", "a/b", "a/b/", "a/bb", "a/c", "a0", "aa", "ab", "b", "c", "zz"} {
		for _, time := range []int{math.MinInt, -1, 0, 2, 3, 4, 6, 50, 118, latest, latest + 1, math.MaxInt} {
			keys = append(keys, at(path, time))
		}
	}
	return keys
}

// fewKeys are some of them.
func fewKeys() []api.Key {
	var keys []api.Key
	for i, k := range askedKeys() {
		if i%6 == 0 {
			keys = append(keys, k)
		}
	}
	return keys
}

// The document's words, told by other means than the program's.

func ahead(a, b api.Key) bool {
	return a.Path < b.Path || a.Path == b.Path && a.At > b.At
}

// sorted asks for keys of which no two are the same.
func sorted(l []api.Pair) []api.Pair {
	slices.SortFunc(l, func(p, q api.Pair) int {
		if ahead(p.Key, q.Key) {
			return -1
		}
		return 1
	})
	return l
}

func isPath(s string) bool {
	for _, part := range strings.Split(s, "/") {
		if s != "" && (part == "" || part == "." || part == ".." || len(part) > 30 || strings.Contains(part, "\x00")) {
			return false
		}
	}
	return len(s) <= 100
}

func pairsUnder(l []api.Pair, dir string) []api.Pair {
	var m []api.Pair
	for _, p := range l {
		if isPath(p.Key.Path) && (dir == "" || strings.HasPrefix(p.Key.Path+"/", dir+"/")) {
			m = append(m, p)
		}
	}
	return m
}

func pairsBetween(l []api.Pair, from, to api.Key) []api.Pair {
	var m []api.Pair
	for _, p := range l {
		if !ahead(p.Key, from) && ahead(p.Key, to) {
			m = append(m, p)
		}
	}
	return m
}

// pathsOf is the row's Paths, each once.
func pathsOf(l []api.Pair) []string {
	var m []string
	for _, p := range l {
		m = append(m, p.Key.Path)
	}
	return slices.Compact(m)
}

// place is a cursor, and where it is to be: all that is under its dir, and how many of these stand ahead of it.
type place struct {
	t      *testing.T
	what   string
	c      *cursor.Cursor
	l      []api.Pair
	passed int
}

// placed is a new cursor of a tree that has these pairs.
func placed(t *testing.T, what string, x *tree.Tree, l []api.Pair, dir string) *place {
	t.Helper()
	c, e := cursor.New(x, dir)
	if c == nil || e != api.OK {
		t.Fatalf("P11.1: %s: New of %s: %v, %d; want one, and no error", what, quote(dir), c != nil, e)
	}
	return &place{t, what + ", under " + quote(dir), c, pairsUnder(l, dir), 0}
}

func (x *place) next() bool {
	x.t.Helper()
	p, ok := x.c.Next()
	if x.passed == len(x.l) {
		if ok || p != (api.Pair{}) {
			x.t.Errorf("P11.1: %s: Next behind all: %s, %v; want zeros, false", x.what, show([]api.Pair{p}), ok)
		}
		return false
	}
	if want := x.l[x.passed]; !ok || p != want {
		x.t.Errorf("P11.1: %s: Next behind %d: %s, %v; want %s, true", x.what, x.passed, show([]api.Pair{p}), ok, show([]api.Pair{want}))
	}
	x.passed++
	return true
}

func (x *place) skip() bool {
	x.t.Helper()
	s, ok := x.c.Skip()
	if x.passed == len(x.l) {
		if ok || s != "" {
			x.t.Errorf("P11.1: %s: Skip behind all: %s, %v; want none, false", x.what, quote(s), ok)
		}
		return false
	}
	want := x.l[x.passed].Key.Path
	if !ok || s != want {
		x.t.Errorf("P11.1: %s: Skip behind %d: %s, %v; want %s, true", x.what, x.passed, quote(s), ok, quote(want))
	}
	for x.passed < len(x.l) && x.l[x.passed].Key.Path == want {
		x.passed++
	}
	return true
}

func (x *place) seek(k api.Key) {
	x.c.Seek(k)
	x.passed = 0
	for x.passed < len(x.l) && ahead(x.l[x.passed].Key, k) {
		x.passed++
	}
}

// toEnd calls till it is behind all, and a few times more.
func toEnd(call func() bool) {
	for call() {
	}
	call()
	call()
}

func quote(s string) string { return short(strconv.QuoteToASCII(s)) }

func showKey(k api.Key) string { return quote(k.Path) + " " + strconv.Itoa(k.At) }

func show(l []api.Pair) string {
	var b strings.Builder
	for _, p := range l {
		b.WriteString("[" + showKey(p.Key) + ": " + quote(p.Val) + "]")
	}
	return strconv.Itoa(len(l)) + " pairs " + short(b.String())
}

// short cuts a long text so that a failure can be read.
func short(s string) string {
	if len(s) > 300 {
		return s[:300] + ".."
	}
	return s
}

// made is a tree of these pairs: every third one is put first, so that they are not put in order.
func made(l []api.Pair) *tree.Tree {
	x := tree.New()
	for first := range 3 {
		for i := first; i < len(l); i += 3 {
			x = x.Put(l[i])
		}
	}
	return x
}

func checkPairs(t *testing.T, what string, got, want []api.Pair) {
	t.Helper()
	if !slices.Equal(got, want) {
		t.Errorf("%s: %s; want %s", what, show(got), show(want))
	}
}

func checkUnder(t *testing.T, what string, x *tree.Tree, dir string, want []api.Pair) {
	t.Helper()
	l, e := cursor.Under(x, dir)
	if e != api.OK {
		t.Errorf("P11.2: %s: Under %s: error %d", what, quote(dir), e)
	}
	checkPairs(t, "P11.2: "+what+": Under "+quote(dir), l, want)
}

func checkRange(t *testing.T, what string, x *tree.Tree, from, to api.Key, want []api.Pair) {
	t.Helper()
	checkPairs(t, "P11.2: "+what+": Range from "+showKey(from)+" to "+showKey(to), cursor.Range(x, from, to), want)
}

func TestExamples(t *testing.T) {
	l := numbered(at("a", 5), at("a", 3), at("a/b", 1), at("ab", 2))
	x := made(l)
	c, e := cursor.New(x, "a")
	if c == nil || e != api.OK {
		t.Fatalf("P11.1: New of a: %v, %d", c != nil, e)
	}
	if s, ok := c.Skip(); s != "a" || !ok {
		t.Errorf("P11.1: Skip: %q, %v; want a, true", s, ok)
	}
	if p, ok := c.Next(); p != l[2] || !ok {
		t.Errorf("P11.1: Next: %s, %v; want a/b at 1, true", show([]api.Pair{p}), ok)
	}
	if p, ok := c.Next(); p != (api.Pair{}) || ok {
		t.Errorf("P11.1: Next: %s, %v; want zeros, false", show([]api.Pair{p}), ok)
	}
	checkRange(t, "the example", x, at("a", 3), at("ab", 2), l[1:3])
}

func TestNoCursor(t *testing.T) {
	var c *cursor.Cursor
	for _, k := range askedKeys() {
		if p, ok := c.Next(); p != (api.Pair{}) || ok {
			t.Fatalf("P11.1: no cursor: Next: %s, %v", show([]api.Pair{p}), ok)
		}
		if s, ok := c.Skip(); s != "" || ok {
			t.Fatalf("P11.1: no cursor: Skip: %q, %v", s, ok)
		}
		c.Seek(k)
	}
}

func TestNoPairs(t *testing.T) {
	for what, x := range map[string]*tree.Tree{
		"nil":                 nil,
		"new":                 tree.New(),
		"one put and dropped": tree.New().Put(pair("a", 3, "v")).Drop(at("a", 3)),
	} {
		for _, dir := range dirs() {
			p := placed(t, what, x, nil, dir)
			toEnd(p.next)
			toEnd(p.skip)
			for _, k := range askedKeys() {
				p.seek(k)
				p.next()
				p.skip()
			}
			checkUnder(t, what, x, dir, nil)
		}
		for _, from := range fewKeys() {
			for _, to := range fewKeys() {
				checkRange(t, what, x, from, to, nil)
			}
		}
	}
}

func TestDirsThatAreNoPaths(t *testing.T) {
	trees := []*tree.Tree{nil}
	for _, l := range rows() {
		trees = append(trees, made(l))
	}
	// Also where the tree has keys of just that path.
	for _, dir := range noDirs() {
		trees = append(trees, made(numbered(at(dir, 3), at(dir+"/b", 3))))
	}
	for _, x := range trees {
		for _, dir := range noDirs() {
			if c, e := cursor.New(x, dir); c != nil || e != api.ErrPath {
				t.Errorf("P11.1: New of %s: %v, %d; want none, ErrPath", quote(dir), c != nil, e)
			}
			if l, e := cursor.Under(x, dir); len(l) != 0 || e != api.ErrPath {
				t.Errorf("P11.2: Under %s: %s, %d; want none, ErrPath", quote(dir), show(l), e)
			}
		}
		if t.Failed() {
			return
		}
	}
}

func TestNextAndSkipByHand(t *testing.T) {
	l := forest()
	x := made(l)
	for dir, want := range map[string][]api.Pair{
		"":        l,
		"a":       slices.Concat(l[2:5], l[9:15]), // its own and those below, but none of `a!`, `a-`, `a.`, `a0`, `ab`
		"a!":      l[5:7],
		"a-":      l[7:8],
		"a.":      l[8:9],
		"a/b":     slices.Concat(l[9:11], l[12:13]), // not `a/b!`, not `a/b0`
		"a/b!":    l[11:12],
		"a/b/c":   l[12:13],
		"a/\xff":  l[14:15],
		"a0":      l[15:17],
		"ab":      l[17:19],
		"ab/c":    l[18:19],
		"b":       l[19:23], // has none of its own
		"b/e":     l[21:23],
		"d":       l[23:],
		"a/b/c/d": nil,
		"aa":      nil,
		"c":       nil,
		"e":       nil,
		"\x01":    nil,
	} {
		checkPairs(t, "the tests' own words, of "+quote(dir), pairsUnder(l, dir), want)
		checkUnder(t, "forest", x, dir, want)
		toEnd(placed(t, "forest", x, l, dir).next)
		toEnd(placed(t, "forest", x, l, dir).skip)
	}
}

// told is what a row of calls tells: n for Next, s for Skip; each answer and a space behind it.
func told(c *cursor.Cursor, calls string) string {
	var b strings.Builder
	for _, call := range calls {
		if call == 'n' {
			p, ok := c.Next()
			b.WriteString(p.Key.Path + "@" + strconv.Itoa(p.Key.At) + "=" + p.Val + ":" + strconv.FormatBool(ok) + " ")
		} else {
			s, ok := c.Skip()
			b.WriteString(s + ":" + strconv.FormatBool(ok) + " ")
		}
	}
	return b.String()
}

func TestSkipWithinAPath(t *testing.T) {
	x := made([]api.Pair{pair("a", 9, "1"), pair("a", 5, "2"), pair("a", 3, "3"), pair("a!", 4, "4"), pair("a/b", 7, "5"), pair("a/b", 2, "6"), pair("ab", 1, "7")})
	for calls, want := range map[string]string{
		"ssss":      "a:true a/b:true :false :false ",
		"nssn":      "a@9=1:true a:true a/b:true @0=:false ",                                                     // at a middle one
		"nnsnns":    "a@9=1:true a@5=2:true a:true a/b@7=5:true a/b@2=6:true :false ",                            // at the last one
		"nnnsn":     "a@9=1:true a@5=2:true a@3=3:true a/b:true @0=:false ",                                      // behind it
		"nnnnssnsn": "a@9=1:true a@5=2:true a@3=3:true a/b@7=5:true a/b:true :false @0=:false :false @0=:false ", // at the last pair of all
		"snnnsn":    "a:true a/b@7=5:true a/b@2=6:true @0=:false :false @0=:false ",                              // all the rest by Next
		"nnnnnnns":  "a@9=1:true a@5=2:true a@3=3:true a/b@7=5:true a/b@2=6:true @0=:false @0=:false :false ",    // all by Next
		"snsnsn":    "a:true a/b@7=5:true a/b:true @0=:false :false @0=:false ",                                  // in turn
		"nsnsns":    "a@9=1:true a:true a/b@7=5:true a/b:true @0=:false :false ",                                 // in turn, the other way round
		"nnsss":     "a@9=1:true a@5=2:true a:true a/b:true :false ",                                             // and Skip behind Skip
		"nnnnnsss":  "a@9=1:true a@5=2:true a@3=3:true a/b@7=5:true a/b@2=6:true :false :false :false ",          // Skip behind all
		"ssnnnnnnn": "a:true a/b:true @0=:false @0=:false @0=:false @0=:false @0=:false @0=:false @0=:false ",    // Next behind all
		"nnnnn":     "a@9=1:true a@5=2:true a@3=3:true a/b@7=5:true a/b@2=6:true ",                               // each once
		"sn":        "a:true a/b@7=5:true ",                                                                      // no `a!` between
		"":          "",
	} {
		c, _ := cursor.New(x, "a")
		if got := told(c, calls); got != want {
			t.Errorf("P11.1: %s: %s; want %s", calls, got, want)
		}
	}
}

func TestSeekByHand(t *testing.T) {
	x := made([]api.Pair{pair("", 5, "0"), pair("a", 9, "1"), pair("a", 5, "2"), pair("a!", 4, "4"), pair("a/b", 7, "5"), pair("a/b", 2, "6"), pair("ab", 1, "7")})
	const (
		all    = "a@9=1:true a@5=2:true a/b@7=5:true a/b@2=6:true @0=:false "
		none   = "@0=:false @0=:false @0=:false @0=:false @0=:false "
		second = "a@5=2:true a/b@7=5:true a/b@2=6:true @0=:false @0=:false "
		below  = "a/b@7=5:true a/b@2=6:true @0=:false @0=:false @0=:false "
		last   = "a/b@2=6:true @0=:false @0=:false @0=:false @0=:false "
	)
	for _, c := range []struct {
		k           api.Key
		next, skips string
	}{
		{at("", math.MaxInt), all, "a:true a/b:true :false "},       // ahead of all
		{at("", 5), all, "a:true a/b:true :false "},                 // not under dir, ahead
		{at("", math.MinInt), all, "a:true a/b:true :false "},       // no key, ahead
		{at("Z", 0), all, "a:true a/b:true :false "},                // not there
		{at("a", math.MaxInt), all, "a:true a/b:true :false "},      // no time
		{at("a", 10), all, "a:true a/b:true :false "},               // right ahead of the first
		{at("a", 9), all, "a:true a/b:true :false "},                // the first
		{at("a", 8), second, "a:true a/b:true :false "},             // between two of one path
		{at("a", 5), second, "a:true a/b:true :false "},             // the second
		{at("a", 4), below, "a/b:true :false :false "},              // behind the last one of a path
		{at("a", math.MinInt), below, "a/b:true :false :false "},    // no time
		{at("a!", 4), below, "a/b:true :false :false "},             // there, not under dir
		{at("a.", 0), below, "a/b:true :false :false "},             // neither
		{at("a/", 5), below, "a/b:true :false :false "},             // no path
		{at("a/b", latest), below, "a/b:true :false :false "},       // ahead
		{at("a/b", 7), below, "a/b:true :false :false "},            // there
		{at("a/b", 6), last, "a/b:true :false :false "},             // between
		{at("a/b", 2), last, "a/b:true :false :false "},             // the last
		{at("a/b", 1), none, ":false :false :false "},               // right behind it
		{at("a/b/c", latest), none, ":false :false :false "},        // under dir, behind all
		{at("a0", 3), none, ":false :false :false "},                // not under dir, behind
		{at("ab", 1), none, ":false :false :false "},                // there, behind
		{at("\xff", math.MinInt), none, ":false :false :false "},    // behind all of the tree
		{at("a/b\x00", math.MaxInt), none, ":false :false :false "}, // no path
	} {
		fresh, _ := cursor.New(x, "a")
		fresh.Seek(c.k)
		if got := told(fresh, "nnnnn"); got != c.next {
			t.Errorf("P11.1: Seek %s, Next: %s; want %s", showKey(c.k), got, c.next)
		}
		// And back from behind all.
		fresh.Seek(c.k)
		if got := told(fresh, "sss"); got != c.skips {
			t.Errorf("P11.1: Seek %s from behind all, Skip: %s; want %s", showKey(c.k), got, c.skips)
		}
		// And from within, with one told already, and behind another Seek.
		used, _ := cursor.New(x, "a")
		told(used, "nn")
		used.Seek(at("a/b", 3))
		used.Seek(c.k)
		used.Seek(c.k)
		if got := told(used, "nnnnn"); got != c.next {
			t.Errorf("P11.1: Seek %s from within, Next: %s; want %s", showKey(c.k), got, c.next)
		}
	}
}

func TestRangeByHand(t *testing.T) {
	l := numbered(at("a", 5), at("a", 3), at("a!", 4), at("a/b", 1), at("ab", 2))
	x := made(l)
	for _, c := range []struct {
		from, to api.Key
		want     []api.Pair
	}{
		{at("", math.MaxInt), at("\xff", 0), l},
		{at("", 0), at("b", latest), l},
		{at("a", 5), at("ab", 1), l},     // from is there, to is not
		{at("a", 6), at("ab", 2), l[:4]}, // to is there: it is not told
		{at("a", 5), at("ab", 3), l[:4]},
		{at("a", 4), at("ab", 2), l[1:4]},
		{at("a", 3), at("a/b", 1), l[1:3]},
		{at("a", 3), at("a/b", 0), l[1:4]},
		{at("a", 2), at("a!", 4), nil},
		{at("a", 2), at("a!", 3), l[2:3]},
		{at("a!", 4), at("a/b", latest), l[2:3]},
		{at("a", 5), at("a", 3), l[:1]}, // of one path
		{at("a", 5), at("a", 4), l[:1]},
		{at("a", 5), at("a", math.MinInt), l[:2]},
		{at("a", math.MaxInt), at("a", 5), nil},
		{at("a", math.MaxInt), at("a", 4), l[:1]},
		{at("ab", 2), at("ab", 1), l[4:]}, // the last one
		{at("ab", 1), at("z", 0), nil},    // behind all
		{at("", 5), at("a", 5), nil},      // ahead of all
		{at("a", 3), at("a", 3), nil},     // the same, there
		{at("a", 4), at("a", 4), nil},     // the same, not there
		{at("a", 3), at("a", 5), nil},     // from behind to
		{at("ab", 2), at("a", 5), nil},
		{at("z", 0), at("", 5), nil},
		{api.Key{}, api.Key{}, nil},
		{at("a\x00", 7), at("a//", -3), l[2:3]}, // keys that may not be
		{at("..", -7), at("a/", math.MaxInt), l[:3]},
		{at("a/", math.MinInt), at(strings.Repeat("\xff", 200), math.MaxInt), l[3:]},
	} {
		checkRange(t, "by hand", x, c.from, c.to, c.want)
	}
}

// Of a key that may not be, a dir asks for its Path alone: a time that is none is told, a Path that is none is not.
func TestKeysThatMayNotBe(t *testing.T) {
	a := numbered(at("a", math.MaxInt), at("a", latest+1), at("a", 5), at("a", -1), at("a", math.MinInt))
	noPaths := numbered(at("a\x00", 5), at("a/", 5), at("a/\x00", 5), at("a/.", 5), at("a/..", 5), at("a//b", 5))
	below := numbered(at("a/b", math.MaxInt), at("a/b", math.MinInt))
	noMore := numbered(at("a/b/", 5), at("a/b/"+name30+"n", 5))
	l := slices.Concat(a, noPaths, below, noMore)
	x := made(l)
	want := slices.Concat(a, below)
	for _, dir := range []string{"", "a"} {
		checkUnder(t, "keys that may not be", x, dir, want)
		p := placed(t, "keys that may not be", x, l, dir)
		toEnd(p.next)
		p.seek(at("a\x00", 5))
		toEnd(p.next)
		p.seek(at("", math.MaxInt))
		toEnd(p.skip)
	}
	checkUnder(t, "keys that may not be", x, "a/b", below)
	// Range asks for the order alone.
	checkRange(t, "keys that may not be", x, at("", math.MaxInt), at("b", 0), l)
	checkRange(t, "keys that may not be", x, a[1].Key, noMore[1].Key, l[1:len(l)-1])
	checkRange(t, "keys that may not be", x, a[4].Key, noPaths[0].Key, a[4:])
	checkRange(t, "keys that may not be", x, below[0].Key, below[1].Key, below[:1])
	checkRange(t, "keys that may not be", x, below[1].Key, at("a/b\x00", math.MaxInt), below[1:])
}

// Of the root each path is told, also the longest and the greatest ones, and no text that is longer.
func TestLongPaths(t *testing.T) {
	own := numbered(at(path98, 7), at(path98, 3))
	below := numbered(at(path98+"/6", 7), at(path98+"/6", 3)) // as long as a path can be
	longest := numbered(at(path100, 7), at(path100, 3))
	great := numbered(at(greatest, math.MaxInt), at(greatest, math.MinInt))
	others := numbered(at(path98+"/67", 3), at(path100+"/", 3), at(path101, 3), at(greatest+"\xff", 3), at(strings.Repeat("\xff", 100), 3), at(strings.Repeat("\xff", 101), math.MaxInt), at(strings.Repeat("\xff", 102), 3))
	x := made(sorted(slices.Concat(own, below, longest, great, others)))
	checkUnder(t, "long", x, "", slices.Concat(own, below, longest, great))
	checkUnder(t, "long", x, path98, slices.Concat(own, below))
	checkUnder(t, "long", x, path98+"/6", below)
	checkUnder(t, "long", x, path98[:92], slices.Concat(own, below, longest))
	checkUnder(t, "long", x, path100, longest)
	checkUnder(t, "long", x, greatest, great)
	checkUnder(t, "long", x, greatest[:30], great)
}

func TestAllRows(t *testing.T) {
	for what, l := range rows() {
		x := made(l)
		checkPairs(t, what+": the tests' own row", x.All(), l)
		for _, dir := range dirs() {
			checkUnder(t, what, x, dir, pairsUnder(l, dir))
			p := placed(t, what, x, l, dir)
			toEnd(p.next)
			for _, k := range askedKeys() {
				p.seek(k)
				p.next()
				p.next()
				p.skip()
				p.next()
				p.seek(k)
				p.skip()
				p.skip()
				p.next()
			}
			p = placed(t, what, x, l, dir)
			toEnd(p.skip)
			for _, k := range fewKeys() {
				p.seek(k)
				toEnd(p.next)
				p.seek(k)
				toEnd(p.skip)
			}
			// One dir's failures tell enough.
			if t.Failed() {
				return
			}
		}
	}
}

func TestAllRanges(t *testing.T) {
	for what, l := range rows() {
		x := made(l)
		keys := fewKeys()
		for i, p := range l {
			if i%7 == 0 {
				keys = append(keys, p.Key)
			}
		}
		for _, from := range keys {
			for _, to := range keys {
				checkRange(t, what, x, from, to, pairsBetween(l, from, to))
			}
			if t.Failed() {
				return
			}
		}
	}
	l := forest()
	x := made(l)
	for _, from := range askedKeys() {
		for _, to := range askedKeys() {
			checkRange(t, "each key", x, from, to, pairsBetween(l, from, to))
		}
		if t.Failed() {
			return
		}
	}
}

// Next, again and again, tells what Under tells; Skip tells the Paths of that.
func TestEachOnce(t *testing.T) {
	for what, l := range rows() {
		x := made(l)
		for _, dir := range dirs() {
			u, _ := cursor.Under(x, dir)
			c, _ := cursor.New(x, dir)
			var pairs []api.Pair
			for p, ok := c.Next(); ok; p, ok = c.Next() {
				pairs = append(pairs, p)
			}
			checkPairs(t, "P11.3: "+what+": Next under "+quote(dir), pairs, u)
			c, _ = cursor.New(x, dir)
			var paths []string
			for s, ok := c.Skip(); ok; s, ok = c.Skip() {
				paths = append(paths, s)
			}
			if !slices.Equal(paths, pathsOf(u)) {
				t.Errorf("P11.3: %s: Skip under %s: %q; want %q", what, quote(dir), paths, pathsOf(u))
			}
		}
	}
}

// Every row of six calls: Next, Skip, and Seek of some keys.
func TestEveryRowOfFewCalls(t *testing.T) {
	l := numbered(at("a", 9), at("a", 5), at("a", 3), at("a!", 4), at("a/", 4), at("a/b", 7), at("a/b", 2), at("ab", 1))
	x := made(l)
	keys := []api.Key{at("", 0), at("a", 5), at("a", 1), at("a/b", 2), at("b", 0)}
	for _, dir := range []string{"", "a", "a/b", "b"} {
		for row := range 7 * 7 * 7 * 7 * 7 * 7 {
			p := placed(t, "row "+strconv.Itoa(row), x, l, dir)
			for calls := row; calls > 0; calls /= 7 {
				switch call := calls % 7; call {
				case 0:
					p.next()
				case 1:
					p.skip()
				default:
					p.seek(keys[call-2])
				}
			}
			p.next()
			if t.Failed() {
				return
			}
		}
	}
}

// What comes of the tree behind New is another tree: a cursor goes on through its own one.
func TestWhatIsPutBehindNew(t *testing.T) {
	for what, l := range rows() {
		for _, dir := range dirs()[:12] {
			x := made(l)
			fresh := placed(t, what, x, l, dir)
			within := placed(t, what, x, l, dir)
			within.next()
			behind := placed(t, what, x, l, dir)
			toEnd(behind.next)
			y, now := x, slices.Clone(l)
			for _, p := range l {
				y = y.Drop(p.Key)
				checkUnder(t, what+", one dropped", y, dir, pairsUnder(now[1:], dir))
				now = now[1:]
			}
			for _, k := range fewKeys() {
				p := api.Pair{Key: k, Val: "new"}
				y = y.Put(p)
				x.Put(p)
				now = append(now, p)
			}
			toEnd(placed(t, what+", others put", y, sorted(slices.Clone(now)), dir).next)
			toEnd(fresh.next)
			toEnd(within.next)
			toEnd(behind.next)
			checkPairs(t, "P11.3: "+what+": the tree behind it", x.All(), l)
		}
		if t.Failed() {
			return
		}
	}
}

// Two cursors of one tree go their own ways, of one dir or of two.
func TestTwoCursors(t *testing.T) {
	for what, l := range rows() {
		x := made(l)
		for _, dir := range []string{"", "a", "a/b", "ab", "b"} {
			one, same, other := placed(t, what, x, l, "a"), placed(t, what, x, l, "a"), placed(t, what, x, l, dir)
			for i, k := range askedKeys() {
				one.next()
				if i%5 == 0 {
					same.seek(k)
				}
				other.skip()
				same.next()
				if i%11 == 0 {
					other.seek(k)
				}
				other.next()
				same.skip()
			}
			toEnd(one.next)
			toEnd(same.next)
			toEnd(other.skip)
			if t.Failed() {
				return
			}
		}
	}
}

// overwrite changes all that an answer holds, and the room behind it.
func overwrite(l []api.Pair) {
	l = l[:cap(l)]
	for i := range l {
		l[i] = pair("changed", -7, "changed")
	}
}

// answers are rows that Range and Under tell of a tree, each twice.
func answers(x *tree.Tree) [][]api.Pair {
	var all [][]api.Pair
	for _, dir := range dirs() {
		for range 2 {
			l, _ := cursor.Under(x, dir)
			all = append(all, l)
		}
	}
	keys := fewKeys()
	for i := range keys {
		from, to := keys[i], keys[(i*7+3)%len(keys)]
		all = append(all, cursor.Range(x, from, to), cursor.Range(x, from, to), cursor.Range(x, to, from))
	}
	return all
}

// An answer stands on its own: neither on a tree's memory, nor on that of another answer.
func TestAnswersStandAlone(t *testing.T) {
	for what, l := range rows() {
		x := made(l)
		p := placed(t, what, x, l, "a")
		p.next()
		all := answers(x)
		var want [][]api.Pair
		for _, row := range all {
			want = append(want, slices.Clone(row))
		}
		for i, row := range all {
			if !slices.Equal(row, want[i]) {
				t.Fatalf("R2: %s: answer %d shares memory: %s", what, i, show(row))
			}
			overwrite(row)
		}
		checkPairs(t, "R2: "+what+": what was told is written over", x.All(), l)
		toEnd(p.next)
		if again := answers(x); !slices.EqualFunc(again, want, slices.Equal[[]api.Pair]) {
			t.Errorf("R2: %s: two calls alike are not answered alike", what)
		}
	}
}

func TestManyPairs(t *testing.T) {
	const n = 20000
	l := many(n)
	x := made(l)
	for _, dir := range []string{"", "a", "a/b", "a1000007", "ab1000003", "a/x1000100", "ab", "z"} {
		checkUnder(t, "many", x, dir, pairsUnder(l, dir))
		toEnd(placed(t, "many", x, l, dir).next)
		toEnd(placed(t, "many", x, l, dir).skip)
	}
	for i := 0; i < n; i += 997 {
		checkRange(t, "many", x, l[i].Key, l[n-1].Key, l[i:n-1])
		checkRange(t, "many", x, l[0].Key, l[i].Key, l[:i])
		checkRange(t, "many", x, l[i].Key, l[min(i+10, n-1)].Key, l[i:min(i+10, n-1)])
	}
}

// keyOf tells a key by two bytes: most of them are of few paths and times, so that keys stand there again.
func keyOf(a, b byte) api.Key {
	paths := []string{"", "a", "a\x00", "a!", "a/", "a/.", "a//b", "a/b", "a/b!", "a/b/c", "a/b/c/", "a0", "ab", "b/c", greatest, greatest + "\xff"}
	times := []int{math.MaxInt, latest + 1, latest, -1, math.MinInt}
	time := int(b)
	if time < len(times) {
		time = times[time]
	}
	return at(paths[int(a)%len(paths)], time)
}

// FuzzCalls makes a tree of keys, two bytes each, and goes through calls of one cursor, three bytes each.
func FuzzCalls(f *testing.F) {
	f.Add([]byte{}, "", []byte{})
	f.Add([]byte{1, 5, 1, 3, 7, 1, 12, 2}, "a", []byte{1, 0, 0, 0, 0, 0, 0, 0, 0})
	f.Add([]byte{1, 9, 3, 3, 4, 3, 7, 7, 7, 0, 11, 3}, "a/", []byte{0, 0, 0, 2, 1, 9, 0, 0, 0, 2, 14, 4, 1, 0, 0})
	var keys, calls []byte
	for i := range 200 {
		keys = append(keys, byte(i%16), byte(i*37))
		calls = append(calls, byte(i%3), byte(i*5), byte(i*11))
	}
	f.Add(keys, "a/b", calls)
	f.Fuzz(func(t *testing.T, keys []byte, dir string, calls []byte) {
		has := map[api.Key]string{}
		x := tree.New()
		for keys = keys[:min(len(keys), 800)]; len(keys) >= 2; keys = keys[2:] {
			p := api.Pair{Key: keyOf(keys[0], keys[1]), Val: strconv.Itoa(len(keys))}
			has[p.Key] = p.Val
			x = x.Put(p)
		}
		var l []api.Pair
		for k, v := range has {
			l = append(l, api.Pair{Key: k, Val: v})
		}
		sorted(l)
		if !isPath(dir) {
			if c, e := cursor.New(x, dir); c != nil || e != api.ErrPath {
				t.Fatalf("P11.1: New of %s: %v, %d; want none, ErrPath", quote(dir), c != nil, e)
			}
			dir = ""
		}
		checkUnder(t, "fuzz", x, dir, pairsUnder(l, dir))
		p := placed(t, "fuzz", x, l, dir)
		last := api.Key{}
		for calls = calls[:min(len(calls), 1500)]; len(calls) >= 3; calls = calls[3:] {
			k := keyOf(calls[1], calls[2])
			switch calls[0] % 3 {
			case 0:
				p.next()
			case 1:
				p.skip()
			default:
				p.seek(k)
			}
			checkRange(t, "fuzz", x, last, k, pairsBetween(l, last, k))
			last = k
		}
		toEnd(p.next)
		checkPairs(t, "P11.3: fuzz: the tree behind it", x.All(), l)
	})
}
