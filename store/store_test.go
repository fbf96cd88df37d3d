package store_test

import (
	"encoding/binary"
	"fmt"
	"math"
	"slices"
	"strconv"
	"strings"
	"testing"

	"sexton/api"
	"sexton/store"
	"sexton/tree"
)

const (
	latest      = 1000000000
	mostChanges = 20
	mostSize    = 1000000000
	mostMode    = 4095
	mostChunks  = 16
	mostNumber  = 4294967295
)

// goneValue and sizeOne are values' bytes, written out by hand.
const (
	goneValue = "\x00"
	sizeOne   = "\x01\x01\x01\x00\x00"
)

var (
	name30 = strings.Repeat("n", 30)
	name31 = strings.Repeat("n", 31)
	// path100 and path101 differ in their last name alone; no path is greater than greatest.
	path100  = strings.Join([]string{name30, name30, name30, "1234567"}, "/")
	path101  = path100 + "8"
	greatest = strings.Join([]string{strings.Repeat("\xff", 30), strings.Repeat("\xff", 30), strings.Repeat("\xff", 30), strings.Repeat("\xff", 7)}, "/")
)

func sized(p string, n int) api.Change { return api.Change{Path: p, Meta: api.Meta{Size: n}} }

func gone(p string) api.Change { return api.Change{Path: p, Gone: true} }

func full(p string, size, mode int, chunks ...int) api.Change {
	return api.Change{Path: p, Meta: api.Meta{Size: size, Mode: mode, Chunks: chunks}}
}

func row(l ...api.Change) []api.Change { return l }

func pair(path string, time int, val string) api.Pair {
	return api.Pair{Key: api.Key{Path: path, At: time}, Val: val}
}

// laid is the version that a change makes at a time.
func laid(c api.Change, time int) api.Pair {
	if c.Gone {
		return pair(c.Path, time, goneValue)
	}
	return pair(c.Path, time, valueBytes(c.Meta))
}

// unlike is n changes whose Paths rise, every third one gone.
func unlike(n int) []api.Change {
	var l []api.Change
	for i := range n {
		p := fmt.Sprintf("f%05d", i)
		switch i % 3 {
		case 0:
			l = append(l, full(p, i, 7, i, mostNumber))
		case 1:
			l = append(l, gone(p))
		default:
			l = append(l, sized(p, i))
		}
	}
	return l
}

// versions are n of one path, with gaps between their times, every third one gone.
func versions(path string, n int) []api.Pair {
	var l []api.Pair
	for i := range n {
		c := full(path, i, 7, i, i)
		if i%3 == 1 {
			c = gone(path)
		}
		l = append(l, laid(c, 3*(n-i)))
	}
	return l
}

// many are n versions, three of each path: some under `a`, some beside it.
func many(n int) []api.Pair {
	var l []api.Pair
	for i := range n {
		path := []string{"a", "a!", "a/b", "a/b/c", "ab"}[i%5] + []string{"", "/x", "/y/z"}[i/5%3] + strconv.Itoa(1000000+i/45)
		c := sized(path, i)
		if i%7 == 3 {
			c = gone(path)
		}
		l = append(l, laid(c, 90-i/15%3*10))
	}
	return sorted(l)
}

// around are versions of names whose bytes stand before and behind '/', of what they begin with and of what is below.
func around() []api.Pair {
	var l []api.Pair
	for i, p := range []string{"a!", "a!/b", "a-", "a.", "a", "a/!", "a/b", "a/b!", "a/b/c", "a/b0", "a/\xff", "a0", "a0/b", "aA", "ab", "ab/c"} {
		l = append(l, laid(sized(p, i), 4), laid(full(p, i, 7, i), 8))
		if i%2 == 0 {
			l = append(l, laid(gone(p), 6))
		}
		if i%3 == 0 {
			l = append(l, laid(gone(p), 9))
		}
	}
	return sorted(l)
}

// stores are rows of versions; they rise.
func stores() map[string][]api.Pair {
	one := full("a", 300, 7, 5)
	return map[string][]api.Pair{
		"none":                          nil,
		"one":                           {laid(one, 3)},
		"one, gone":                     {laid(gone("a"), 3)},
		"one, of 0":                     {laid(one, 0)},
		"one, gone, of 0":               {laid(gone("a"), 0)},
		"one, of 1":                     {laid(one, 1)},
		"one, of the latest time":       {laid(one, latest)},
		"one, gone, of the latest time": {laid(gone("a"), latest)},
		"one, of the time ahead of it":  {laid(one, latest-1)},
		"the example":                   {laid(gone("a"), 3), laid(sized("a", 1), 1), laid(sized("b", 1), 1)},
		"laid, gone, laid anew":         {laid(sized("a", 7), 7), laid(gone("a"), 4), laid(sized("a", 1), 2)},
		"gone from the first":           {laid(sized("a", 7), 7), laid(gone("a"), 4), laid(gone("a"), 2), laid(sized("b", 1), 3)},
		"gone at last":                  {laid(gone("a"), 9), laid(gone("a"), 8), laid(sized("a", 7), 7), laid(one, 0)},
		"all times' edges":              {laid(sized("a", 4), latest), laid(sized("a", 3), latest-1), laid(sized("a", 2), 1), laid(sized("a", 1), 0), laid(sized("b", 2), latest), laid(sized("b", 1), 0)},
		"no own version, others begin":  {laid(sized("a!", 2), 2), laid(sized("a/b", 3), 3), laid(sized("a/b/c", 3), 2), laid(gone("a/c"), 3), laid(sized("a0", 2), 2), laid(sized("ab", 1), 1)},
		"below before its own":          {laid(sized("a", 5), 5), laid(gone("a/b"), 6), laid(sized("a/b", 1), 1), laid(sized("ab", 9), 9)},
		"around the slash":              around(),
		"one path, many times":          versions("a", 40),
		"a path below, many times":      versions("a/b", 40),
		"many between":                  slices.Concat([]api.Pair{laid(one, 3)}, versions("a!", 30), versions("a-", 30), []api.Pair{laid(sized("a/b", 1), 3)}, versions("a0", 30)),
		"odd paths":                     sorted(oddPaths()),
		"all metas":                     sorted(allMetas()),
		"many":                          many(300),
	}
}

func oddPaths() []api.Pair {
	var l []api.Pair
	for i, p := range []string{"\x01", " ", "!", "...", "..a", "é", "\xff", "\xff\xff", name30, name30 + "/" + name30, path100[:99], path100, greatest[:30], greatest, strings.Repeat("a/", 49) + "bc"} {
		l = append(l, laid(sized(p, i), 5), laid(gone(p), 3), laid(full(p, i, i, i), 2))
	}
	return l
}

// metas may be, all of them.
func metas() []api.Meta {
	return []api.Meta{
		{}, {Size: 1}, {Size: 300, Mode: 7, Chunks: []int{5}}, {Size: mostSize}, {Mode: 1}, {Mode: mostMode}, {Chunks: []int{0}}, {Chunks: []int{mostNumber}}, {Chunks: []int{0, mostNumber, 0}},
		{Chunks: make([]int, mostChunks)}, {Size: mostSize, Mode: mostMode, Chunks: slices.Repeat([]int{mostNumber}, mostChunks)},
	}
}

func allMetas() []api.Pair {
	var l []api.Pair
	for i, m := range metas() {
		l = append(l, laid(api.Change{Path: "all", Meta: m}, i), laid(api.Change{Path: "m" + strconv.Itoa(i), Meta: m}, 5))
	}
	return l
}

// paths have versions of their own in some of the stores, in some only others that they begin; some have none.
func paths() []string {
	return []string{
		"", "a", "a!", "a!/b", "a-", "a.", "a/!", "a/b", "a/b!", "a/b/c", "a/b/c/d", "a/b0", "a/\xff", "a/x", "a0", "a0/b", "aa", "aA", "ab", "ab/c", "b", "all", "m3", "f00001", "x", "\x01", "!", "...", "é", "\xff", "\xff\xff",
		"a1000002", "a/b/x1000002", "a/b/c/y", "a/b/c/y/z1000001", name30, name30 + "/" + name30, path100[:92], path100[:99], path100, greatest[:30], greatest, strings.Repeat("a/", 48) + "a", strings.Repeat("a/", 49) + "bc",
	}
}

// noPaths are none.
func noPaths() []string {
	return []string{
		"/", "//", "/a", "a/", "a//b", "a/b/", ".", "..", "./a", "a/.", "a/..", "../a", "a/../b", "\x00", "a\x00", "\x00a", "a/\x00b", "a\x00b/c", name31, "a/" + name31,
		path101, path100 + "/", strings.Repeat("a/", 50) + "a", strings.Repeat("\xff", 101), greatest + "\xff", strings.Repeat("x", 1<<20),
	}
}

// noTimes are none at which one may ask.
func noTimes() []int {
	return []int{-1, -2, -latest, -1 << 32, -1<<32 + 3, math.MinInt + 1, math.MinInt}
}

// times are the edges, and those around each one of l.
func times(l []api.Pair) []int {
	all := []int{0, 1, 2, 3, 4, 5, 9, 10, latest - 1, latest, latest + 1, mostNumber, 1 << 32, 1<<32 + 2, 1 << 62, math.MaxInt}
	for i, p := range l {
		if i < 40 || i%17 == 0 {
			all = append(all, max(0, p.Key.At-1), p.Key.At, p.Key.At+1)
		}
	}
	slices.Sort(all)
	return slices.Compact(all)
}

// noBatches are none, for each reason.
func noBatches() [][]api.Change {
	l := [][]api.Change{
		nil, {}, unlike(21), unlike(22), unlike(256), unlike(276), slices.Repeat(row(sized("a", 1)), 21),
		{sized("b", 1), sized("a", 1)}, {sized("a", 1), sized("a", 1)}, {gone("a"), sized("a", 1)}, {sized("a", 1), gone("a")}, {sized("a", 1), sized("c", 1), sized("b", 1)},
		{sized("a", 1), sized("b", 1), sized("b", 2)}, {sized("ab", 1), sized("a/b", 1)}, {sized("a/b", 1), sized("a!", 1)}, {sized("é", 1), sized("z", 1)},
	}
	for n := 2; n <= mostChanges; n++ {
		turned, same := unlike(n), unlike(n)
		turned[n-2], turned[n-1] = turned[n-1], turned[n-2]
		same[n-1].Path = same[n-2].Path
		l = append(l, turned, same)
	}
	for _, wrong := range noChanges() {
		l = append(l, row(wrong), row(sized("A", 1), wrong), row(wrong, sized("z", 1)), row(sized("A", 1), wrong, gone("z")))
	}
	return l
}

// noChanges may not be, each for one reason; their Paths stand between `A` and `z` but those of the root and of some that are none.
func noChanges() []api.Change {
	l := []api.Change{
		gone(""), sized("", 1), sized("k", -1), sized("k", mostSize+1), sized("k", math.MinInt), sized("k", 1<<32+5), full("k", 0, -1), full("k", 0, mostMode+1),
		full("k", 0, 0, -1), full("k", 0, 0, 5, mostNumber+1), full("k", 0, 0, make([]int, mostChunks+1)...),
		{Path: "k", Gone: true, Meta: api.Meta{Size: 1}}, {Path: "k", Gone: true, Meta: api.Meta{Mode: 1}}, {Path: "k", Gone: true, Meta: api.Meta{Chunks: []int{0}}}, {Path: "k", Gone: true, Meta: api.Meta{Size: -1}},
	}
	for _, p := range noPaths() {
		l = append(l, gone(p), sized(p, 1))
	}
	return l
}

// noValues are no value's bytes.
func noValues() []string {
	return []string{
		"", "x", "\x01", "\x02", "\xff", "\x00\x00", "\x00\x01", "\x00" + sizeOne, "\x01\x00", "\x01\x00\x00", "\x01\x00\x00\x00\x00", "\x02\x00\x00\x00", "\x02\x01\x01\x00\x00", "\x01\x01\x00\x00\x00", "\x01\x02\x00\x05\x00\x00",
		sizeOne[:4], sizeOne[1:], sizeOne + "\x00", sizeOne + sizeOne, "\x01\x00\x00\x01\x01", "\x01\x00\x00\x01\x01\x01", "\x01\x00\x00\x01\x02\x00",
		"\x01" + numbersBytes(mostSize+1, 0, 0), "\x01" + numbersBytes(0, mostMode+1, 0), "\x01" + numbersBytes(0, 0, mostChunks+1) + strings.Repeat("\x00", mostChunks+1), "\x01" + numbersBytes(0, 0, mostNumber), strings.Repeat("\x00", 1<<20),
	}
}

// noVersions are pairs that are none, each for one reason: of the root, of a Path that begins with p and is none, of p at a time that is none, and of p with bytes that are no value's.
func noVersions(p string) []api.Pair {
	l := []api.Pair{pair("", 0, sizeOne), pair("", 3, sizeOne), pair("", latest, goneValue)}
	for _, s := range []string{p + "/", p + "//b", p + "/..", p + "/./b", p + "\x00", p + "/\x00", p + "/" + name31, p + strings.Repeat("/a", 50), p + strings.Repeat("x", 100)} {
		l = append(l, pair(s, 3, sizeOne), pair(s, 3, goneValue))
	}
	for _, time := range []int{math.MinInt, -1 << 32, -1<<32 + 3, -1, latest + 1, mostNumber, 1<<32 + 3, math.MaxInt} {
		l = append(l, pair(p, time, sizeOne), pair(p, time, goneValue))
	}
	for _, val := range noValues() {
		l = append(l, pair(p, 3, val))
	}
	return l
}

// The document's words, told by other means than the program's.

// sorted puts the later one of a path ahead; it asks for keys of which no two are the same.
func sorted(l []api.Pair) []api.Pair {
	l = slices.Clone(l)
	slices.SortFunc(l, func(p, q api.Pair) int {
		if p.Key.Path < q.Key.Path || p.Key.Path == q.Key.Path && p.Key.At > q.Key.At {
			return -1
		}
		return 1
	})
	return l
}

func isPath(s string) bool {
	wrong := func(n string) bool {
		return n == "" || n == "." || n == ".." || len(n) > 30 || strings.Contains(n, "\x00")
	}
	return s == "" || len(s) <= 100 && !slices.ContainsFunc(strings.Split(s, "/"), wrong)
}

func isUnder(dir, s string) bool { return dir == "" || strings.HasPrefix(s+"/", dir+"/") }

func metaMayBe(m api.Meta) bool {
	wrong := func(c int) bool { return c < 0 || c > mostNumber }
	return m.Size >= 0 && m.Size <= mostSize && m.Mode >= 0 && m.Mode <= mostMode && len(m.Chunks) <= mostChunks && !slices.ContainsFunc(m.Chunks, wrong)
}

// numbersBytes is numbers' bytes by the library's means.
func numbersBytes(l ...int) string {
	s := ""
	for _, n := range l {
		digits := strings.TrimLeft(string(binary.BigEndian.AppendUint32(nil, uint32(n))), "\x00")
		s += string([]byte{byte(len(digits))}) + digits
	}
	return s
}

func valueBytes(m api.Meta) string {
	return "\x01" + numbersBytes(append([]int{m.Size, m.Mode, len(m.Chunks)}, m.Chunks...)...)
}

// numbersIn are those that s says, in any form, up to where it says none.
func numbersIn(s string) []int {
	var l []int
	for s != "" && s[0] <= 4 && len(s) > int(s[0]) {
		n := 0
		for _, b := range []byte(s[1 : 1+s[0]]) {
			n = n<<8 | int(b)
		}
		l, s = append(l, n), s[1+s[0]:]
	}
	return l
}

// metaOf is the meta that a value tells; false, if it tells none. It reads whatever forms there are, and asks then whether the value is what that has.
func metaOf(val string) (api.Meta, bool) {
	if val == "" {
		return api.Meta{}, false
	}
	l := numbersIn(val[1:])
	if len(l) < 3 {
		return api.Meta{}, false
	}
	m := api.Meta{Size: l[0], Mode: l[1], Chunks: l[3:]}
	return m, metaMayBe(m) && valueBytes(m) == val
}

func isVersion(p api.Pair) bool {
	_, is := metaOf(p.Val)
	return p.Key.Path != "" && isPath(p.Key.Path) && p.Key.At >= 0 && p.Key.At <= latest && (is || p.Val == goneValue)
}

// newest is the latest one of l's versions of a path that is not later than a time.
func newest(l []api.Pair, path string, time int) (v api.Pair, is bool) {
	for _, p := range l {
		if p.Key.Path == path && p.Key.At <= time && (!is || p.Key.At > v.Key.At) {
			v, is = p, true
		}
	}
	return v, is
}

func fileOf(l []api.Pair, path string, time int) (api.Entry, bool) {
	v, is := newest(l, path, time)
	if !is || v.Val == goneValue {
		return api.Entry{}, false
	}
	m, _ := metaOf(v.Val)
	return api.Entry{Path: path, At: v.Key.At, Meta: m}, true
}

// filesOf asks for a row that rises.
func filesOf(l []api.Pair, dir string, time int) []api.Entry {
	var files []api.Entry
	for _, p := range pathsOf(l) {
		if f, there := fileOf(l, p, time); there && isUnder(dir, p) {
			files = append(files, f)
		}
	}
	return files
}

func historyOf(l []api.Pair, path string) []api.Pair {
	var own []api.Pair
	for _, p := range l {
		if p.Key.Path == path {
			own = append(own, p)
		}
	}
	return own
}

func lastOf(l []api.Pair) int {
	last := 0
	for _, p := range l {
		last = max(last, p.Key.At)
	}
	return last
}

// pathsOf asks for a row that rises: so do the Paths.
func pathsOf(l []api.Pair) []string {
	var paths []string
	for _, p := range l {
		paths = append(paths, p.Key.Path)
	}
	return slices.Compact(paths)
}

// withLaid is l with a batch's versions of a time.
func withLaid(l []api.Pair, time int, b []api.Change) []api.Pair {
	l = slices.Clone(l)
	for _, c := range b {
		l = append(l, laid(c, time))
	}
	return sorted(l)
}

// sameEntry takes no Chunks for the same, nil or not.
func sameEntry(a, b api.Entry) bool {
	return a.Path == b.Path && a.At == b.At && a.Meta.Size == b.Meta.Size && a.Meta.Mode == b.Meta.Mode && slices.Equal(a.Meta.Chunks, b.Meta.Chunks)
}

func same(a, b []api.Entry) bool { return slices.EqualFunc(a, b, sameEntry) }

// clone is l on memory of its own.
func clone(l []api.Entry) []api.Entry {
	l = slices.Clone(l)
	for i := range l {
		l[i].Meta.Chunks = slices.Clone(l[i].Meta.Chunks)
	}
	return l
}

// made is a tree of these pairs: every third one is put first, so that they are not put in order.
func made(l []api.Pair) *tree.Tree {
	x := tree.New()
	for first := range 3 {
		for i := first; i < len(l); i += 3 {
			x = x.Put(l[i])
		}
	}
	return x
}

// short cuts a long text so that a failure can be read.
func short(s string) string {
	if len(s) > 300 {
		return s[:300] + ".."
	}
	return s
}

func show(x any) string { return short(strconv.QuoteToASCII(fmt.Sprintf("%+v", x))) }

func showKeys(l []api.Pair) string {
	s := strconv.Itoa(len(l)) + " pairs:"
	for _, p := range l {
		s += fmt.Sprintf(" [%s %d: %s]", show(p.Key.Path), p.Key.At, show(p.Val))
	}
	return short(s)
}

func checkPairs(t *testing.T, what string, got, want []api.Pair) {
	t.Helper()
	if !slices.Equal(got, want) {
		t.Errorf("%s: %s; want %s", what, showKeys(got), showKeys(want))
	}
}

func checkAsOf(t *testing.T, what string, x *tree.Tree, path string, time int, want api.Entry, wantThere bool, wantErr api.Errno) {
	t.Helper()
	if f, there, e := store.AsOf(x, path, time); !sameEntry(f, want) || there != wantThere || e != wantErr {
		t.Errorf("P15.2: %s: AsOf %s, %d: %s, %v, %d; want %s, %v, %d", what, show(path), time, show(f), there, e, show(want), wantThere, wantErr)
	}
}

func checkList(t *testing.T, what string, x *tree.Tree, dir string, time int, want []api.Entry, wantErr api.Errno) {
	t.Helper()
	if l, e := store.List(x, dir, time); !same(l, want) || e != wantErr {
		t.Errorf("P15.2: %s: List %s, %d: %s, %d; want %s, %d", what, show(dir), time, show(l), e, show(want), wantErr)
	}
}

func checkHistory(t *testing.T, what string, x *tree.Tree, path string, want []api.Pair, wantErr api.Errno) {
	t.Helper()
	l, e := store.History(x, path)
	if e != wantErr {
		t.Errorf("P15.2: %s: History %s: error %d; want %d", what, show(path), e, wantErr)
	}
	checkPairs(t, "P15.2: "+what+": History "+show(path), l, want)
}

func checkLast(t *testing.T, what string, x *tree.Tree, want int) {
	t.Helper()
	if last := store.Last(x); last != want {
		t.Errorf("P15.1: %s: Last: %d; want %d", what, last, want)
	}
}

func checkIs(t *testing.T, what string, x *tree.Tree, want bool) {
	t.Helper()
	if store.Is(x) != want {
		t.Errorf("P15.1: %s: Is: %v", what, !want)
	}
}

func checkNoLay(t *testing.T, what string, x *tree.Tree, time int, b []api.Change) {
	t.Helper()
	if y, e := store.Lay(x, time, b); y != nil || e != api.ErrArg {
		t.Errorf("P15.1: %s: Lay at %d of %d changes %s: a tree: %v, %d; want none, ErrArg", what, time, len(b), show(b), y != nil, e)
	}
}

// checkLay asks for a batch and a time that may be laid, and is the tree then.
func checkLay(t *testing.T, what string, x *tree.Tree, l []api.Pair, time int, b []api.Change) *tree.Tree {
	t.Helper()
	y, e := store.Lay(x, time, b)
	if e != api.OK || y == nil {
		t.Fatalf("P15.1: %s: Lay at %d of %d changes %s: a tree: %v, %d; want one, no error", what, time, len(b), show(b), y != nil, e)
	}
	what += ", laid at " + strconv.Itoa(time)
	checkPairs(t, "P15.1: "+what, y.All(), withLaid(l, time, b))
	checkLast(t, what, y, time)
	checkIs(t, what, y, true)
	checkPairs(t, "R2: "+what+": what it was laid on", x.All(), l)
	return y
}

// checkTold holds all that is told of some paths at some times against the document's words.
func checkTold(t *testing.T, what string, x *tree.Tree, l []api.Pair, paths []string, times []int) {
	t.Helper()
	for _, p := range paths {
		for _, time := range times {
			f, there := fileOf(l, p, time)
			checkAsOf(t, what, x, p, time, f, there, api.OK)
			checkList(t, what, x, p, time, filesOf(l, p, time), api.OK)
		}
		checkHistory(t, what, x, p, historyOf(l, p), api.OK)
	}
	checkLast(t, what, x, lastOf(l))
	checkIs(t, what, x, true)
}

// checkNoStore holds each call against a tree that is none: whether there is such a path or time plays no part.
func checkNoStore(t *testing.T, what string, x *tree.Tree, paths []string) {
	t.Helper()
	checkIs(t, what, x, false)
	checkLast(t, what, x, 0)
	for _, time := range []int{math.MinInt, -1, 0, 1, 5, 1000, latest, latest + 1, math.MaxInt} {
		checkNoLay(t, what, x, time, row(sized("a", 1)))
		checkNoLay(t, what, x, time, nil)
		for _, p := range append(slices.Clone(paths), "/", "a/", "..") {
			checkAsOf(t, what, x, p, time, api.Entry{}, false, api.ErrArg)
			checkList(t, what, x, p, time, nil, api.ErrArg)
			checkHistory(t, what, x, p, nil, api.ErrArg)
		}
	}
}

func TestExamples(t *testing.T) {
	x, e := store.Lay(nil, 1, row(sized("a", 1), sized("b", 1)))
	if e != api.OK {
		t.Fatalf("P15.1: Lay at 1: %d", e)
	}
	x, e = store.Lay(x, 3, row(gone("a")))
	if e != api.OK {
		t.Fatalf("P15.1: Lay at 3: %d", e)
	}
	a, b := api.Entry{Path: "a", At: 1, Meta: api.Meta{Size: 1}}, api.Entry{Path: "b", At: 1, Meta: api.Meta{Size: 1}}
	checkAsOf(t, "the example", x, "a", 2, a, true, api.OK)
	checkAsOf(t, "the example", x, "a", 3, api.Entry{}, false, api.OK)
	checkList(t, "the example", x, "", 2, []api.Entry{a, b}, api.OK)
	checkList(t, "the example", x, "", 9, []api.Entry{b}, api.OK)
}

// Each pair that is laid is written out by hand.
func TestLayByHand(t *testing.T) {
	x, e := store.Lay(tree.New(), 2, row(full("a", 300, 7, 5), sized("a/b", 1), gone("c")))
	l := []api.Pair{pair("a", 2, "\x01\x02\x01\x2c\x01\x07\x01\x01\x01\x05"), pair("a/b", 2, sizeOne), pair("c", 2, goneValue)}
	if e != api.OK {
		t.Fatalf("P15.1: Lay at 2: %d", e)
	}
	checkPairs(t, "P15.1: Lay at 2", x.All(), l)
	y, e := store.Lay(x, latest, row(gone("a"), sized("b", 0), full("c", mostSize, mostMode, slices.Repeat([]int{mostNumber}, mostChunks)...)))
	if e != api.OK {
		t.Fatalf("P15.1: Lay at the latest time: %d", e)
	}
	checkPairs(t, "P15.1: Lay at the latest time", y.All(), []api.Pair{
		pair("a", latest, goneValue), l[0], l[1], pair("b", latest, "\x01\x00\x00\x00"),
		pair("c", latest, "\x01\x04\x3b\x9a\xca\x00\x02\x0f\xff\x01\x10"+strings.Repeat("\x04\xff\xff\xff\xff", 16)), l[2],
	})
	checkPairs(t, "R2: what it was laid on", x.All(), l)
}

func TestTimesOfLay(t *testing.T) {
	b := row(sized("a", 1), gone("b"))
	for _, x := range []*tree.Tree{nil, tree.New(), tree.New().Put(pair("a", 3, "x")).Drop(api.Key{Path: "a", At: 3})} {
		for _, time := range append(noTimes(), 0, latest+1, latest+2, mostNumber, 1<<32, 1<<32+1, 1<<62, math.MaxInt) {
			checkNoLay(t, "no pairs", x, time, b)
		}
		for _, time := range []int{1, 2, 3, 1000, latest - 1, latest} {
			checkLay(t, "no pairs", x, nil, time, b)
		}
	}
}

// Last counts whatever path has it, and gone or not: also where the batch has none of these paths.
func TestLayAroundLast(t *testing.T) {
	for what, l := range stores() {
		x, last := made(l), lastOf(l)
		checkLast(t, what, x, last)
		for _, b := range [][]api.Change{row(sized("a", 1)), row(gone("a")), row(sized("other", 1)), row(sized("a", 1), gone("a/b"), full("zz", 1, 1, 1)), unlike(20)} {
			for _, time := range []int{math.MinInt, last - latest, last - 1<<32, -1, 0, 1, 2, last - 2, last - 1, last, last + 1, last + 2, latest - 1, latest, latest + 1, last + 1<<32, math.MaxInt} {
				if time > last && time <= latest {
					checkLay(t, what, x, l, time, b)
				} else {
					checkNoLay(t, what, x, time, b)
				}
			}
		}
		checkPairs(t, "R2: "+what+": behind all that was laid on it", x.All(), l)
	}
}

func TestLayOfBatches(t *testing.T) {
	for what, l := range stores() {
		if lastOf(l) == latest {
			continue
		}
		for n := 1; n <= mostChanges; n++ {
			checkLay(t, what, made(l), l, lastOf(l)+1, unlike(n))
		}
		for _, m := range metas() {
			checkLay(t, what, made(l), l, latest, row(gone("a"), api.Change{Path: "a/b", Meta: m}, api.Change{Path: path100, Meta: m}))
		}
	}
}

func TestLayOfNoBatch(t *testing.T) {
	l := stores()["laid, gone, laid anew"]
	for _, b := range noBatches() {
		checkNoLay(t, "none", nil, 1, b)
		checkNoLay(t, "laid, gone, laid anew", made(l), 8, b)
		// And with another refusal, or two.
		checkNoLay(t, "laid, gone, laid anew", made(l), 7, b)
		checkNoLay(t, "laid, gone, laid anew", made(l), 0, b)
		checkNoLay(t, "laid, gone, laid anew", made(l), latest+1, b)
		checkNoLay(t, "no store", made(l).Put(pair("z", 3, "x")), 8, b)
	}
	// What is refused is refused of the whole: none of it is laid.
	x := made(l)
	checkNoLay(t, "the last one may not be", x, 8, append(unlike(19), sized("z", -1)))
	checkPairs(t, "R2: behind a Lay that was refused", x.All(), l)
}

func TestAsOfByHand(t *testing.T) {
	x := made([]api.Pair{
		pair("a", 7, "\x01\x01\x07\x00\x00"), pair("a", 4, goneValue), pair("a", 2, "\x01\x02\x01\x2c\x01\x07\x01\x01\x01\x05"),
		pair("a!", 1, sizeOne), pair("a/b", 3, sizeOne), pair("ab", 0, sizeOne), pair("b", 5, sizeOne), pair("b", 3, goneValue), pair("c", latest, sizeOne), pair("d/e", 1, sizeOne), pair("de", 1, sizeOne),
	})
	first := api.Entry{Path: "a", At: 2, Meta: api.Meta{Size: 300, Mode: 7, Chunks: []int{5}}}
	anew := api.Entry{Path: "a", At: 7, Meta: api.Meta{Size: 7}}
	one := func(path string, time int) api.Entry {
		return api.Entry{Path: path, At: time, Meta: api.Meta{Size: 1}}
	}
	for _, c := range []struct {
		path string
		at   int
		want api.Entry
	}{
		{"a", 0, api.Entry{}}, {"a", 1, api.Entry{}}, // ahead of the first one
		{"a", 2, first}, {"a", 3, first}, // at it, and between two
		{"a", 4, api.Entry{}}, {"a", 5, api.Entry{}}, {"a", 6, api.Entry{}}, // gone
		{"a", 7, anew}, {"a", 8, anew}, {"a", latest, anew}, {"a", latest + 1, anew}, {"a", 1 << 32, anew}, {"a", math.MaxInt, anew}, // at the last one, and behind
		{"a!", 0, api.Entry{}}, {"a!", 1, one("a!", 1)}, {"a/b", 2, api.Entry{}}, {"a/b", 3, one("a/b", 3)}, {"a/b", 9, one("a/b", 3)},
		{"ab", 0, one("ab", 0)}, {"ab", 1, one("ab", 0)}, {"ab", latest, one("ab", 0)}, // laid at 0
		{"b", 2, api.Entry{}}, {"b", 3, api.Entry{}}, {"b", 4, api.Entry{}}, {"b", 5, one("b", 5)}, // gone from the first
		{"c", latest - 1, api.Entry{}}, {"c", latest, one("c", latest)}, {"c", latest + 1, one("c", latest)}, {"c", math.MaxInt, one("c", latest)},
		{"d", 0, api.Entry{}}, {"d", 1, api.Entry{}}, {"d", 9, api.Entry{}}, // has no version, others begin with it
		{"aa", 9, api.Entry{}}, {"a/b/c", 9, api.Entry{}}, {"a/", 9, api.Entry{}}, {"A", 9, api.Entry{}}, {"z", 9, api.Entry{}},
		{"", 0, api.Entry{}}, {"", 1, api.Entry{}}, {"", 9, api.Entry{}}, {"", math.MaxInt, api.Entry{}}, // the root
	} {
		wantErr := api.OK
		if c.path == "a/" {
			wantErr = api.ErrPath
		}
		checkAsOf(t, "by hand", x, c.path, c.at, c.want, c.want.Path != "", wantErr)
	}
}

func TestListByHand(t *testing.T) {
	x := made([]api.Pair{
		pair("a", 7, "\x01\x01\x07\x00\x00"), pair("a", 4, goneValue), pair("a", 2, sizeOne), pair("a!", 2, sizeOne), pair("a-", 3, sizeOne), pair("a/b", 5, goneValue), pair("a/b", 2, sizeOne), pair("a/b/c", 6, sizeOne),
		pair("a0", 2, sizeOne), pair("ab", 9, goneValue), pair("ab", 1, sizeOne), pair("c/d", 2, sizeOne), pair("e", 3, goneValue),
	})
	for _, c := range []struct {
		dir  string
		at   int
		want string
	}{
		{"", 0, ""}, {"", 1, "ab@1"}, {"", 2, "a@2 a!@2 a/b@2 a0@2 ab@1 c/d@2"}, {"", 3, "a@2 a!@2 a-@3 a/b@2 a0@2 ab@1 c/d@2"}, {"", 4, "a!@2 a-@3 a/b@2 a0@2 ab@1 c/d@2"},
		{"", 5, "a!@2 a-@3 a0@2 ab@1 c/d@2"}, {"", 6, "a!@2 a-@3 a/b/c@6 a0@2 ab@1 c/d@2"}, {"", 7, "a@7 a!@2 a-@3 a/b/c@6 a0@2 ab@1 c/d@2"}, {"", 9, "a@7 a!@2 a-@3 a/b/c@6 a0@2 c/d@2"}, {"", math.MaxInt, "a@7 a!@2 a-@3 a/b/c@6 a0@2 c/d@2"},
		{"a", 0, ""}, {"a", 1, ""}, {"a", 2, "a@2 a/b@2"}, {"a", 4, "a/b@2"}, {"a", 5, ""}, {"a", 6, "a/b/c@6"}, {"a", 7, "a@7 a/b/c@6"}, {"a", latest, "a@7 a/b/c@6"}, {"a", latest + 1, "a@7 a/b/c@6"},
		{"a/b", 2, "a/b@2"}, {"a/b", 5, ""}, {"a/b", 6, "a/b/c@6"}, {"a/b/c", 9, "a/b/c@6"}, {"a/b/c/d", 9, ""}, {"a!", 9, "a!@2"}, {"a0", 9, "a0@2"}, {"ab", 8, "ab@1"}, {"ab", 9, ""},
		{"c", 1, ""}, {"c", 2, "c/d@2"}, {"c/d", 2, "c/d@2"}, {"e", 9, ""}, {"aa", 9, ""}, {"x", 9, ""},
	} {
		l, e := store.List(x, c.dir, c.at)
		var told []string
		for _, f := range l {
			told = append(told, f.Path+"@"+strconv.Itoa(f.At))
		}
		if got := strings.Join(told, " "); got != c.want || e != api.OK {
			t.Errorf("P15.2: List %q, %d: %s, %d; want %s", c.dir, c.at, got, e, c.want)
		}
	}
}

func TestHistoryByHand(t *testing.T) {
	l := []api.Pair{
		pair("a", 7, sizeOne), pair("a", 4, goneValue), pair("a", 0, sizeOne), pair("a!", 2, sizeOne), pair("a/b", 5, goneValue), pair("a/b", 2, sizeOne), pair("ab", 9, goneValue), pair("b/c", latest, sizeOne), pair("b/c", 1, "\x01\x02\x01\x2c\x01\x07\x01\x01\x01\x05"),
	}
	x := made(l)
	for path, want := range map[string][]api.Pair{
		"a": l[:3], "a!": l[3:4], "a/b": l[4:6], "ab": l[6:7], "b/c": l[7:], "": nil, "b": nil, "aa": nil, "a/b/c": nil, "a0": nil, "A": nil, "z": nil,
	} {
		checkHistory(t, "by hand", x, path, want, api.OK)
	}
}

func TestNoPairs(t *testing.T) {
	var none *tree.Tree
	for what, x := range map[string]*tree.Tree{
		"nil":                   nil,
		"new":                   tree.New(),
		"nil, with one dropped": none.Drop(api.Key{Path: "a", At: 3}),
		"one put, and dropped":  none.Put(pair("a/", 3, "x")).Drop(api.Key{Path: "a/", At: 3}),
	} {
		checkTold(t, what, x, nil, paths(), times(nil))
	}
}

func TestAllStores(t *testing.T) {
	for what, l := range stores() {
		checkTold(t, what, made(l), l, paths(), times(l))
		if t.Failed() {
			return
		}
	}
}

// Of a store the path is named first, also where there is no such time.
func TestPathsThatAreNone(t *testing.T) {
	for what, l := range stores() {
		checkNoPaths(t, what, made(l), api.ErrPath)
		if t.Failed() {
			return
		}
	}
	checkNoPaths(t, "nil", nil, api.ErrPath)
}

// Of a tree that is no store neither the path nor the time is asked about.
func TestPathsThatAreNoneOfNoStores(t *testing.T) {
	checkNoPaths(t, "the empty key alone", tree.New().Put(api.Pair{}), api.ErrArg)
	for what, l := range stores() {
		x := made(l)
		for _, wrong := range []api.Pair{{}, pair("", 3, sizeOne), pair("z", 3, "x"), pair("z", -1, goneValue), pair("z/", 3, sizeOne)} {
			checkNoPaths(t, what+", and "+show(wrong), x.Put(wrong), api.ErrArg)
		}
		// Also where the tree has a pair of just that path.
		for _, p := range noPaths() {
			y := x.Put(pair(p, 3, sizeOne))
			for _, time := range []int{-1, 3} {
				checkAsOf(t, what, y, p, time, api.Entry{}, false, api.ErrArg)
				checkList(t, what, y, p, time, nil, api.ErrArg)
			}
			checkHistory(t, what, y, p, nil, api.ErrArg)
		}
		if t.Failed() {
			return
		}
	}
}

// checkNoPaths asks, at all kinds of times, for paths that are none.
func checkNoPaths(t *testing.T, what string, x *tree.Tree, wantErr api.Errno) {
	t.Helper()
	for _, p := range noPaths() {
		for _, time := range append(noTimes(), 0, 1, 3, latest, latest+1, math.MaxInt) {
			checkAsOf(t, what, x, p, time, api.Entry{}, false, wantErr)
			checkList(t, what, x, p, time, nil, wantErr)
		}
		checkHistory(t, what, x, p, nil, wantErr)
	}
}

func TestTimesThatAreNone(t *testing.T) {
	for what, l := range stores() {
		x := made(l)
		for _, x := range []*tree.Tree{nil, x, x.Put(pair("z", 3, "x"))} {
			for _, time := range noTimes() {
				for _, p := range paths() {
					checkAsOf(t, what, x, p, time, api.Entry{}, false, api.ErrArg)
					checkList(t, what, x, p, time, nil, api.ErrArg)
				}
			}
		}
	}
}

// One pair makes a tree no store, as the first, a middle and the last one, or alone: whatever is asked, also of a path that has nothing to do with it.
func TestNoStores(t *testing.T) {
	around := [][]api.Pair{
		nil,
		{laid(sized("a", 1), 3)},
		{laid(sized("B", 1), 3), laid(sized("a", 1), 3), laid(gone("a"), 2), laid(sized("x/y", 1), 3)},
		slices.Concat(versions("a", 10), versions("c", 10), versions("x", 10)),
	}
	for _, l := range around {
		for _, p := range []string{"\x01", "A", "a", "a/b", "m", "x/y", "z", "\xff"} {
			for _, wrong := range noVersions(p) {
				x := made(l).Put(wrong)
				what := fmt.Sprintf("%d versions and %s at %d: %s", len(l), show(wrong.Key.Path), wrong.Key.At, show(wrong.Val))
				checkNoStore(t, what, x, []string{"", "a", p, "x"})
				// And without it, it is one again: if it stood over none of them.
				if x.Len() > len(l) {
					checkIs(t, what+", dropped", x.Drop(wrong.Key), true)
				}
				if t.Failed() {
					return
				}
			}
		}
	}
}

// Of the root alone, several times, and of paths that no cursor under the root tells, ahead of all and behind.
func TestNoStoresOfOneKind(t *testing.T) {
	for what, l := range map[string][]api.Pair{
		"the root, three times":         {pair("", 5, sizeOne), pair("", 3, goneValue), pair("", 1, sizeOne)},
		"no paths":                      {pair("..", 3, sizeOne), pair("/", 3, sizeOne), pair("a/", 3, sizeOne), pair(strings.Repeat("\xff", 101), 3, sizeOne), pair(strings.Repeat("\xff", 200), 3, sizeOne)},
		"behind the greatest path":      {pair("a", 3, sizeOne), pair(greatest, 3, sizeOne), pair(greatest+"\xff", 3, sizeOne)},
		"far behind":                    {pair("a", 3, sizeOne), pair(greatest, 3, sizeOne), pair(strings.Repeat("\xff", 101), math.MaxInt, sizeOne)},
		"the empty key":                 {{}},
		"ahead of all":                  {pair("", math.MaxInt, sizeOne), pair("a", 3, sizeOne)},
		"a byte 0":                      {pair("\x00", 3, sizeOne), pair("a", 3, sizeOne)},
		"times that are none":           {pair("a", latest+1, sizeOne), pair("a", -1, sizeOne), pair("b", math.MaxInt, sizeOne), pair("b", math.MinInt, sizeOne)},
		"no value's bytes, many":        {pair("a", 3, ""), pair("a", 2, "x"), pair("b", 3, sizeOne[:3])},
		"as many wrong ones as good":    {pair("a", 3, sizeOne), pair("a/", 3, sizeOne), pair("b", 3, sizeOne), pair("b/", 3, sizeOne)},
		"a later version, no value's":   {pair("a", 9, "\x02"), pair("a", 3, sizeOne)},
		"an earlier one, no value's":    {pair("a", 9, sizeOne), pair("a", 3, "\x02")},
		"a path below that is none":     {pair("a", 3, sizeOne), pair("a/.", 3, sizeOne)},
		"a path too long":               {pair("a", 3, sizeOne), pair(path101, 3, sizeOne)},
		"a name too long":               {pair("a", 3, sizeOne), pair(name31, 3, sizeOne)},
		"the root among many versions":  append(many(200), pair("", 3, sizeOne)),
		"no path among many versions":   append(many(200), pair("a/b/", 3, sizeOne)),
		"no time among many versions":   append(many(200), pair("a/b", -1, sizeOne)),
		"no value among many versions":  append(many(200), pair("a/b", 3, "\x01\x05")),
		"no path behind many versions":  append(many(200), pair("z/", 3, sizeOne)),
		"no value behind many versions": append(many(200), pair("z", 3, "")),
	} {
		checkNoStore(t, what, made(l), []string{"", "a", "a/b", "z", greatest})
	}
}

// All values' bytes of few letters: Is tells those that are, at each place of three.
func TestIsOfAllShortValues(t *testing.T) {
	letters := []string{"\x00", "\x01", "\x02", "\x04", "\x10", "a"}
	texts := []string{""}
	for first := 0; len(texts) < 50000; {
		next := len(texts)
		for _, s := range texts[first:] {
			for _, letter := range letters {
				texts = append(texts, s+letter)
			}
		}
		first = next
	}
	good := made([]api.Pair{pair("b", 3, sizeOne), pair("d", 3, goneValue)})
	for i, s := range texts {
		p := pair([]string{"a", "c", "e"}[i%3], 3, s)
		x := good.Put(p)
		checkIs(t, "with a value "+show(s), x, isVersion(p))
		if isVersion(p) {
			checkLast(t, "with a value "+show(s), x, 3)
		} else {
			checkLast(t, "with a value "+show(s), x, 0)
		}
	}
}

// world is a store, and what it was told to be made of.
type world struct {
	x *tree.Tree
	l []api.Pair
}

func (w world) with(t *testing.T, time int, b []api.Change) world {
	t.Helper()
	return world{checkLay(t, "a history", w.x, w.l, time, b), withLaid(w.l, time, b)}
}

// everyBatch calls f with every batch of these paths: each one laid, gone, or left out.
func everyBatch(paths []string, size int, f func(b []api.Change)) {
	rows := [][]api.Change{nil}
	for _, p := range paths {
		var more [][]api.Change
		for _, r := range rows {
			more = append(more, r, append(slices.Clone(r), full(p, size, 7, size)), append(slices.Clone(r), gone(p)))
		}
		rows = more
	}
	for _, r := range rows[1:] {
		f(r)
	}
}

// everyHistory calls f with every world that these times of batches of these paths lead to.
func everyHistory(t *testing.T, w world, paths []string, times []int, f func(w world)) {
	t.Helper()
	f(w)
	if len(times) == 0 || t.Failed() {
		return
	}
	everyBatch(paths, times[0], func(b []api.Change) {
		if !t.Failed() {
			everyHistory(t, w.with(t, times[0], b), paths, times[1:], f)
		}
	})
}

func TestEveryShortHistory(t *testing.T) {
	for _, h := range []struct {
		paths []string
		times []int
	}{
		{[]string{"a"}, []int{1, 2, 4, 7, latest}},
		{[]string{"a", "a/b"}, []int{1, 3, 4}},
		{[]string{"a!", "a/b"}, []int{2, 3, 9}},
		{[]string{"a", "a/b", "ab"}, []int{1, 3}},
		{[]string{"a", "a-", "a/b", "a0"}, []int{5}},
	} {
		asked := append([]int{0, latest + 1}, h.times...)
		for _, time := range h.times {
			asked = append(asked, time-1, time+1)
		}
		everyHistory(t, world{}, h.paths, h.times, func(w world) {
			checkTold(t, "a history", w.x, w.l, append(h.paths, "", "b"), asked)
		})
	}
}

// told is all that is told of some paths at a time.
func told(t *testing.T, x *tree.Tree, time int) (l []api.Entry) {
	t.Helper()
	for _, p := range []string{"", "a", "a/b", "ab", "c"} {
		f, _, e := store.AsOf(x, p, time)
		under, g := store.List(x, p, time)
		if e != api.OK || g != api.OK {
			t.Errorf("P15.2: AsOf and List of %q, %d: %d, %d", p, time, e, g)
		}
		l = append(append(l, f, api.Entry{}), under...)
	}
	return l
}

// What is laid is told from its time on; what is told of an earlier time stays.
func TestWhatIsToldOfAnEarlierTimeStays(t *testing.T) {
	everyHistory(t, world{}, []string{"a", "a/b"}, []int{2, 5}, func(w world) {
		last := lastOf(w.l)
		everyBatch([]string{"a", "a/b", "c"}, 77, func(b []api.Change) {
			if t.Failed() {
				return
			}
			const time = 8
			y := w.with(t, time, b).x
			for at := range last + 3 {
				if before, behind := told(t, w.x, at), told(t, y, at); !same(before, behind) {
					t.Errorf("P15.3: at %d was told %s; behind Lay at %d %s", at, show(before), time, show(behind))
				}
			}
			for _, at := range []int{time - 1, time, time + 1, latest, math.MaxInt} {
				checkFromItsTimeOn(t, w.x, y, time, b, at)
			}
		})
	})
}

// checkFromItsTimeOn asks of each path at a time: y is x with b laid at another one.
func checkFromItsTimeOn(t *testing.T, x, y *tree.Tree, time int, b []api.Change, at int) {
	t.Helper()
	for _, p := range []string{"a", "a/b", "ab", "c", "d"} {
		want, there, _ := store.AsOf(x, p, at)
		for _, c := range b {
			if c.Path == p && at >= time {
				want, there = api.Entry{Path: p, At: time, Meta: c.Meta}, !c.Gone
			}
		}
		if !there {
			want = api.Entry{}
		}
		if f, is, e := store.AsOf(y, p, at); !sameEntry(f, want) || is != there || e != api.OK {
			t.Errorf("P15.3: AsOf %s, %d behind Lay at %d: %s, %v, %d; want %s, %v", p, at, time, show(f), is, e, show(want), there)
		}
	}
}

// List tells just the files that AsOf tells, by rising Paths; History tells all of a Path's pairs in order.
func TestListAsOfAndHistoryHoldTogether(t *testing.T) {
	for what, l := range stores() {
		x := made(l)
		all := pathsOf(l)
		for _, time := range []int{0, 1, 3, 5, 8, 80, 85, latest} {
			var files []api.Entry
			for _, p := range all {
				if f, there, _ := store.AsOf(x, p, time); there {
					files = append(files, f)
				}
			}
			for _, dir := range paths() {
				under := slices.DeleteFunc(slices.Clone(files), func(f api.Entry) bool { return !isUnder(dir, f.Path) })
				if l, e := store.List(x, dir, time); !same(l, under) || e != api.OK {
					t.Errorf("P15.3: %s: List %s, %d: %s, %d; AsOf of each: %s", what, show(dir), time, show(l), e, show(under))
				}
			}
		}
		var joined []api.Pair
		for _, p := range all {
			h, e := store.History(x, p)
			if e != api.OK || len(h) == 0 {
				t.Errorf("P15.2: %s: History %s: %s, %d", what, show(p), showKeys(h), e)
			}
			joined = append(joined, h...)
		}
		checkPairs(t, "P15.2: "+what+": all Histories, one behind the other", joined, x.All())
	}
}

// A long history, laid by batches of many lengths.
func TestManyBatches(t *testing.T) {
	w := world{x: tree.New()}
	for i := range 60 {
		var b []api.Change
		for k := range 1 + i%mostChanges {
			c := full([]string{"a", "a!", "a/b", "a/b/c", "ab"}[k%5]+strconv.Itoa(10+(i*7+k)%23/5), i, k, i, k)
			if (i+k)%4 == 3 {
				c = gone(c.Path)
			}
			b = append(b, c)
		}
		slices.SortFunc(b, func(c, d api.Change) int { return strings.Compare(c.Path, d.Path) })
		b = slices.CompactFunc(b, func(c, d api.Change) bool { return c.Path == d.Path })
		w = w.with(t, 3*i+1, b)
		checkNoLay(t, "many batches", w.x, 3*i+1, b)
	}
	asked := []int{0, 1, 2, 4, 30, 31, 32, 33, 100, 177, 178, 179, latest}
	checkTold(t, "many batches", w.x, w.l, []string{"", "a", "a10", "a!12", "a/b11", "a/b/c13", "ab14", "ab"}, asked)
}

// roomy is l with room behind the last change and behind each last Chunk, which is nobody's to write to.
func roomy(l []api.Change) []api.Change {
	room := append(slices.Clone(l), sized("room", 1), gone("room"), sized("room", 3))
	for i := range room {
		chunks := room[i].Meta.Chunks
		room[i].Meta.Chunks = append(slices.Clone(chunks), 11, 12, 13)[:len(chunks)]
	}
	return room[:len(l)]
}

// withRoom is l up to the end of its room, and of that of its Chunks, on memory of its own.
func withRoom(l []api.Change) []api.Change {
	l = slices.Clone(l[:cap(l)])
	for i, c := range l {
		l[i].Meta.Chunks = slices.Clone(c.Meta.Chunks[:cap(c.Meta.Chunks)])
	}
	return l
}

func sameChange(a, b api.Change) bool {
	return a.Gone == b.Gone && sameEntry(api.Entry{Path: a.Path, Meta: a.Meta}, api.Entry{Path: b.Path, Meta: b.Meta})
}

func TestTheBatchThatCameInIsAsItWas(t *testing.T) {
	l := stores()["laid, gone, laid anew"]
	for _, b := range append(noBatches(), unlike(1), unlike(20), row(full("a", 300, 7, 5, 6), full("b", 1, 1, 1))) {
		given := roomy(b)
		was := withRoom(given)
		for _, time := range []int{-1, 1, 7, 8, latest} {
			store.Lay(made(l), time, given)
		}
		if !slices.EqualFunc(withRoom(given), was, sameChange) {
			t.Errorf("R2: %s was given; now it is %s", show(was), show(withRoom(given)))
		}
	}
}

// The batch is not kept: its rows may be written over.
func TestTheBatchPlaysNoPartInLaterCalls(t *testing.T) {
	for what, l := range stores() {
		if lastOf(l) == latest {
			continue
		}
		b := row(full("a", 300, 7, 5, 6), gone("a/b"), full("c", 1, 1, 1))
		given := roomy(b)
		y, e := store.Lay(made(l), latest, given)
		if e != api.OK {
			t.Fatalf("P15.1: %s: Lay at the latest time: %d", what, e)
		}
		given = given[:cap(given)]
		for i := range given {
			chunks := given[i].Meta.Chunks[:cap(given[i].Meta.Chunks)]
			for k := range chunks {
				chunks[k] = 77
			}
			given[i] = full("overwritten", 77, 77, 77)
		}
		checkTold(t, what+", and the batch written over", y, withLaid(l, latest, b), []string{"", "a", "a/b", "c"}, []int{1, 5, latest - 1, latest})
	}
}

// Whatever is asked or laid, a tree has the pairs that it had, a store or not.
func TestTheTreeThatCameInIsAsItWas(t *testing.T) {
	for what, l := range stores() {
		for _, l := range [][]api.Pair{l, sorted(append(slices.Clone(l), pair("z", 3, "x")))} {
			x := made(l)
			for _, p := range append(paths(), "a/") {
				for _, time := range []int{-1, 0, 3, 5, latest, latest + 1} {
					store.AsOf(x, p, time)
					store.List(x, p, time)
					store.Lay(x, time, unlike(20))
				}
				store.History(x, p)
			}
			store.Last(x)
			store.Is(x)
			checkPairs(t, "R2: "+what+": behind all calls", x.All(), l)
		}
	}
}

// overwrite goes up to the room behind the last one, and behind each last Chunk: no two answers share that either.
func overwrite(l []api.Entry) {
	l = l[:cap(l)]
	for i, f := range l {
		chunks := f.Meta.Chunks[:cap(f.Meta.Chunks)]
		for k := range chunks {
			chunks[k] = 77
		}
		l[i] = api.Entry{Path: "overwritten", At: 77, Meta: api.Meta{Size: 77, Mode: 77, Chunks: []int{77}}}
	}
}

func overwritePairs(l []api.Pair) {
	l = l[:cap(l)]
	for i := range l {
		l[i] = pair("overwritten", 77, "overwritten")
	}
}

// everyAnswer is what each call tells of a tree, each twice.
func everyAnswer(x *tree.Tree) (files [][]api.Entry, pairs [][]api.Pair) {
	for _, p := range paths() {
		for _, time := range []int{0, 3, 3, 5, 5, 80, latest, latest} {
			l, _ := store.List(x, p, time)
			f, _, _ := store.AsOf(x, p, time)
			files = append(files, l, []api.Entry{f})
		}
		for range 2 {
			h, _ := store.History(x, p)
			pairs = append(pairs, h)
		}
	}
	return files, pairs
}

// What is told stands on its own: written over, it changes neither another answer nor what is told later.
func TestAnswersPlayNoPartInLaterCalls(t *testing.T) {
	for what, l := range stores() {
		x := made(l)
		files, pairs := everyAnswer(x)
		var files0 [][]api.Entry
		var pairs0 [][]api.Pair
		for _, r := range files {
			files0 = append(files0, clone(r))
		}
		for _, r := range pairs {
			pairs0 = append(pairs0, slices.Clone(r))
		}
		for i, r := range files {
			if !same(r, files0[i]) {
				t.Fatalf("R2: %s: an answer changed with another: %s; want %s", what, show(r), show(files0[i]))
			}
			overwrite(r)
		}
		for i, r := range pairs {
			checkPairs(t, "R2: "+what+": an answer behind others that were written over", r, pairs0[i])
			overwritePairs(r)
		}
		checkPairs(t, "R2: "+what+": what was told is written over", x.All(), l)
		files, pairs = everyAnswer(x)
		if !slices.EqualFunc(files, files0, same) || !slices.EqualFunc(pairs, pairs0, slices.Equal[[]api.Pair]) {
			t.Errorf("R2: %s: two calls alike are not answered alike", what)
		}
	}
}

// Of one answer no two Chunks share memory, also where their versions are of one value.
func TestChunksOfOneAnswerShareNoMemory(t *testing.T) {
	for _, chunks := range [][]int{{5}, {5, 6, 7}, slices.Repeat([]int{5}, mostChunks)} {
		var l []api.Pair
		for i := range mostChanges {
			l = append(l, laid(full(fmt.Sprintf("f%05d", i), 1, 7, chunks...), 3))
		}
		told, _ := store.List(made(l), "", 3)
		want := clone(told)
		if len(told) != mostChanges {
			t.Fatalf("P15.2: List of %d files: %d", mostChanges, len(told))
		}
		for i := range told {
			// Room behind the last Chunk is written to, too.
			_ = append(told[i].Meta.Chunks, 77)
			if !same(told[i:], want[i:]) {
				t.Fatalf("R2: Chunks changed with others': %s; want %s", show(told[i:]), show(want[i:]))
			}
			overwrite(told[i : i+1 : i+1])
		}
	}
}

// FuzzLay makes a history of batches: a byte each of how much later it is and of how many changes there are, and of each change two, its path and what it is.
func FuzzLay(f *testing.F) {
	f.Add([]byte{}, "", 0)
	f.Add([]byte{1, 2, 1, 1, 20, 1, 2, 1, 1, 0}, "", 2)
	f.Add([]byte{1, 2, 1, 9, 5, 9, 1, 1, 1, 0, 1, 1, 1, 5}, "a", 3)
	f.Add([]byte{0, 1, 1, 1, 5, 0, 5, 2, 5, 1, 1, 1}, "a/b", latest)
	var long []byte
	for i := range 300 {
		long = append(long, byte(i%5), byte(i*7%11), byte(i*3), byte(i*5))
	}
	f.Add(long, "a", 40)
	names := []string{"", "a", "a!", "a-", "a/", "a/b", "a/b!", "a/b/c", "a0", "ab", "ab/c", "b", "..", greatest}
	f.Fuzz(func(t *testing.T, calls []byte, path string, at int) {
		w, time := world{}, 0
		for calls = calls[:min(len(calls), 600)]; len(calls) >= 2; {
			time += int(calls[0]) - 1
			n, rises := int(calls[1])%23, calls[1]%4 > 0
			calls = calls[2:]
			var b []api.Change
			for ; n > 0 && len(calls) >= 2; n, calls = n-1, calls[2:] {
				c := full(names[int(calls[0])%len(names)], int(calls[1]), 7, int(calls[1]))
				if calls[1]%4 == 0 {
					c = gone(c.Path)
				}
				b = append(b, c)
			}
			if rises {
				slices.SortFunc(b, func(c, d api.Change) int { return strings.Compare(c.Path, d.Path) })
				b = slices.CompactFunc(b, func(c, d api.Change) bool { return c.Path == d.Path })
			}
			if time > lastOf(w.l) && isBatch(b) {
				w = w.with(t, time, b)
			} else {
				checkNoLay(t, "fuzz", w.x, time, b)
			}
		}
		checkTold(t, "fuzz", w.x, w.l, []string{"", "a", "a/b", "ab", "b"}, []int{0, 1, 2, max(0, time/2), max(0, time-1), max(0, time), latest})
		checkAsked(t, w, path, at)
	})
}

// isBatch asks of changes whose metas may be.
func isBatch(b []api.Change) bool {
	for i, c := range b {
		if c.Path == "" || !isPath(c.Path) || i > 0 && b[i-1].Path >= c.Path {
			return false
		}
	}
	return len(b) >= 1 && len(b) <= mostChanges
}

// checkAsked asks of any path at any time.
func checkAsked(t *testing.T, w world, path string, at int) {
	t.Helper()
	switch {
	case !isPath(path):
		checkAsOf(t, "fuzz", w.x, path, at, api.Entry{}, false, api.ErrPath)
		checkList(t, "fuzz", w.x, path, at, nil, api.ErrPath)
		checkHistory(t, "fuzz", w.x, path, nil, api.ErrPath)
	case at < 0:
		checkAsOf(t, "fuzz", w.x, path, at, api.Entry{}, false, api.ErrArg)
		checkList(t, "fuzz", w.x, path, at, nil, api.ErrArg)
	default:
		checkTold(t, "fuzz", w.x, w.l, []string{path}, []int{at})
	}
}

// FuzzPair puts any pair among versions.
func FuzzPair(f *testing.F) {
	f.Add("a", 3, sizeOne)
	f.Add("", 3, sizeOne)
	f.Add("a/", 3, goneValue)
	f.Add("z", -1, goneValue)
	f.Add("m", latest+1, "\x01\x02\x01\x2c\x01\x07\x01\x01\x01\x05")
	f.Add(greatest+"\xff", 0, "x")
	l := around()
	f.Fuzz(func(t *testing.T, path string, at int, val string) {
		p := pair(path, at, val)
		for _, l := range [][]api.Pair{nil, l} {
			l = slices.DeleteFunc(slices.Clone(l), func(q api.Pair) bool { return q.Key == p.Key })
			x, now := made(l).Put(p), sorted(append(l, p))
			if isVersion(p) {
				checkTold(t, "fuzz", x, now, []string{"", "a", path}, []int{0, 5, at, latest})
			} else {
				checkNoStore(t, "fuzz", x, []string{"", "a", "a/b", path})
			}
		}
	})
}
