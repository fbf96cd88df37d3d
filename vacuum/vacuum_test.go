package vacuum_test

import (
	"encoding/binary"
	"fmt"
	"math"
	"slices"
	"strconv"
	"strings"
	"testing"

	"sexton/api"
	"sexton/store"
	"sexton/tree"
	"sexton/vacuum"
)

const (
	latest     = 1000000000
	mostNumber = 4294967295
)

// goneValue and sizeOne are values' bytes, written out by hand.
const (
	goneValue = "\x00"
	sizeOne   = "\x01\x01\x01\x00\x00"
)

var (
	name31 = strings.Repeat("n", 31)
	// No path is greater than greatest.
	greatest = strings.Join([]string{strings.Repeat("\xff", 30), strings.Repeat("\xff", 30), strings.Repeat("\xff", 30), strings.Repeat("\xff", 7)}, "/")
)

func pair(path string, at int, val string) api.Pair {
	return api.Pair{Key: api.Key{Path: path, At: at}, Val: val}
}

// version is a pair written as `a:1`: its Path and its At, behind it a `-` if its file is gone then. Of files that are there no two of one path are the same.
func version(s string) api.Pair {
	digits, isGone := strings.CutSuffix(s[strings.LastIndex(s, ":")+1:], "-")
	at, e := strconv.Atoi(digits)
	if e != nil {
		panic(s)
	}
	val := valueBytes(at)
	if isGone {
		val = goneValue
	}
	return pair(s[:strings.LastIndex(s, ":")], at, val)
}

// versions is a row written as `a:1 b:2-`, in any order; it rises.
func versions(s string) []api.Pair {
	var l []api.Pair
	for _, w := range strings.Fields(s) {
		l = append(l, version(w))
	}
	return sorted(l)
}

// keys is a row written as `a:2 a:1`, in the order in which it is written.
func keys(s string) []api.Key {
	var l []api.Key
	for _, w := range strings.Fields(s) {
		l = append(l, version(w).Key)
	}
	return l
}

func made(l []api.Pair) *tree.Tree {
	x := tree.New()
	for _, p := range l {
		x = x.Put(p)
	}
	return x
}

// show cuts a long text so that a failure can be read.
func show(x any) string {
	s := fmt.Sprintf("%+q", fmt.Sprintf("%+v", x))
	if len(s) > 300 {
		s = s[:300] + ".."
	}
	return s
}

// The document's words, told by other means than the program's.

// ahead is the order of keys: rising Paths, of one Path falling Ats.
func ahead(a, b api.Key) bool { return a.Path < b.Path || a.Path == b.Path && a.At > b.At }

// sorted asks for keys of which no two are the same.
func sorted(l []api.Pair) []api.Pair {
	l = slices.Clone(l)
	slices.SortFunc(l, func(p, q api.Pair) int {
		if ahead(p.Key, q.Key) {
			return -1
		}
		return 1
	})
	return l
}

// numbersBytes is numbers' bytes by the library's means.
func numbersBytes(l ...int) string {
	s := ""
	for _, n := range l {
		digits := strings.TrimLeft(string(binary.BigEndian.AppendUint32(nil, uint32(n))), "\x00")
		s += string([]byte{byte(len(digits))}) + digits
	}
	return s
}

// valueBytes is a value's bytes of a file of this Size, with a chunk of this sum.
func valueBytes(n int) string { return "\x01" + numbersBytes(n, 7, 1, n) }

// deadOf asks of each version for the latest one of its Path up to w.
func deadOf(l []api.Pair, w int) []api.Key {
	newest := map[string]int{}
	for _, p := range l {
		if at, ok := newest[p.Key.Path]; p.Key.At <= w && (!ok || p.Key.At > at) {
			newest[p.Key.Path] = p.Key.At
		}
	}
	var dead []api.Key
	for _, p := range sorted(l) {
		if p.Key.At <= w && (p.Key.At != newest[p.Key.Path] || p.Val == goneValue) {
			dead = append(dead, p.Key)
		}
	}
	return dead
}

func without(l []api.Pair, dead []api.Key) []api.Pair {
	out := map[api.Key]bool{}
	for _, k := range dead {
		out[k] = true
	}
	return slices.DeleteFunc(slices.Clone(l), func(p api.Pair) bool { return out[p.Key] })
}

// checkDead holds all calls against what they are to tell of a store of l, which rises.
func checkDead(t *testing.T, what string, l []api.Pair, w int, dead []api.Key) {
	t.Helper()
	x := made(l)
	if k, e := vacuum.Of(x, w); !slices.Equal(k, dead) || e != api.OK {
		t.Errorf("P18.1: %s: Of at %d: %s, %d; want %s", what, w, show(k), e, show(dead))
	}
	if n, e := vacuum.Live(x, w); n != len(l)-len(dead) || e != api.OK {
		t.Errorf("P18.1: %s: Live at %d: %d, %d; want %d", what, w, n, e, len(l)-len(dead))
	}
	z, n, e := vacuum.Run(x, w)
	if n != len(dead) || e != api.OK {
		t.Errorf("P18.2: %s: Run at %d: %d, %d; want %d", what, w, n, e, len(dead))
	}
	left := without(l, dead)
	checkPairs(t, "P18.2: "+what+": behind Run at "+strconv.Itoa(w), z, left)
	checkPairs(t, "R2: "+what+": the tree that came in", x, l)
	checkBehind(t, what, z, w)
}

func checkPairs(t *testing.T, what string, x *tree.Tree, want []api.Pair) {
	t.Helper()
	if l := x.All(); !slices.Equal(l, want) || x.Len() != len(want) {
		t.Errorf("%s: %d pairs: %s; want %d: %s", what, x.Len(), show(l), len(want), show(want))
	}
}

// checkBehind asks of a tree for what a Run at w leaves: that each path has at most one version up to w, which is not gone, and that there is nothing more to do.
func checkBehind(t *testing.T, what string, z *tree.Tree, w int) {
	t.Helper()
	l := z.All()
	up := map[string]int{}
	for _, p := range l {
		if p.Key.At <= w {
			up[p.Key.Path]++
		}
		if p.Key.At <= w && (up[p.Key.Path] > 1 || p.Val == goneValue) {
			t.Errorf("P18.3: %s: behind Run at %d there is %s", what, w, show(p))
		}
	}
	k, e := vacuum.Of(z, w)
	n, f := vacuum.Live(z, w)
	again, m, g := vacuum.Run(z, w)
	if len(k) != 0 || n != len(l) || m != 0 || e != api.OK || f != api.OK || g != api.OK {
		t.Errorf("P18.3: %s: behind Run at %d: Of %s, %d; Live %d, %d; Run %d, %d; want none, %d, 0", what, w, show(k), e, n, f, m, g, len(l))
	}
	checkPairs(t, "P18.3: "+what+": Run at "+strconv.Itoa(w)+" twice", again, l)
}

func checkRefused(t *testing.T, what string, x *tree.Tree, w int) {
	t.Helper()
	if k, e := vacuum.Of(x, w); k != nil || e != api.ErrArg {
		t.Errorf("P18.1: %s: Of at %d: %s, %d; want none, %d", what, w, show(k), e, api.ErrArg)
	}
	if n, e := vacuum.Live(x, w); n != 0 || e != api.ErrArg {
		t.Errorf("P18.1: %s: Live at %d: %d, %d; want 0, %d", what, w, n, e, api.ErrArg)
	}
	if z, n, e := vacuum.Run(x, w); z != nil || n != 0 || e != api.ErrArg {
		t.Errorf("P18.2: %s: Run at %d: %s, %d, %d; want none, 0, %d", what, w, show(z), n, e, api.ErrArg)
	}
}

func TestExample(t *testing.T) {
	x := made([]api.Pair{pair("a", 1, sizeOne), pair("a", 2, sizeOne), pair("a", 5, sizeOne), pair("b", 1, sizeOne), pair("b", 2, goneValue)})
	a1, a2 := api.Key{Path: "a", At: 1}, api.Key{Path: "a", At: 2}
	b1, b2 := api.Key{Path: "b", At: 1}, api.Key{Path: "b", At: 2}
	for _, c := range []struct {
		w    int
		dead []api.Key
	}{{3, []api.Key{a1, b2, b1}}, {1, nil}, {9, []api.Key{a2, a1, b2, b1}}} {
		if k, e := vacuum.Of(x, c.w); !slices.Equal(k, c.dead) || e != api.OK {
			t.Errorf("P18.1: Of at %d: %v, %d; want %v", c.w, k, e, c.dead)
		}
		checkDead(t, "the example", x.All(), c.w, c.dead)
	}
}

func TestByHand(t *testing.T) {
	for _, c := range []struct {
		versions string
		w        int
		dead     string
	}{
		{"", 0, ""}, {"", 7, ""}, // none
		{"a:3", 0, ""}, {"a:3", 2, ""}, {"a:3", 3, ""}, {"a:3", 4, ""}, // one: behind w, at it, ahead of it
		{"a:3-", 2, ""}, {"a:3-", 3, "a:3"}, {"a:3-", 4, "a:3"},
		{"a:0", 0, ""}, {"a:0-", 0, "a:0"}, {"a:0 a:1", 0, ""}, {"a:0 a:1", 1, "a:0"}, // at 0
		{"a:1 a:3 a:5", 0, ""}, {"a:1 a:3 a:5", 1, ""}, {"a:1 a:3 a:5", 2, ""}, {"a:1 a:3 a:5", 3, "a:1"}, {"a:1 a:3 a:5", 4, "a:1"}, {"a:1 a:3 a:5", 5, "a:3 a:1"}, {"a:1 a:3 a:5", 6, "a:3 a:1"}, // several
		{"a:1- a:3 a:5", 1, "a:1"}, {"a:1- a:3 a:5", 2, "a:1"}, {"a:1- a:3 a:5", 3, "a:1"}, {"a:1- a:3 a:5", 5, "a:3 a:1"}, // gone first
		{"a:1 a:3- a:5", 2, ""}, {"a:1 a:3- a:5", 3, "a:3 a:1"}, {"a:1 a:3- a:5", 4, "a:3 a:1"}, {"a:1 a:3- a:5", 5, "a:3 a:1"}, {"a:1 a:3- a:5", 9, "a:3 a:1"}, // there again behind a gone one
		{"a:1 a:3 a:5-", 4, "a:1"}, {"a:1 a:3 a:5-", 5, "a:5 a:3 a:1"}, {"a:1 a:3 a:5-", 9, "a:5 a:3 a:1"}, // gone at last
		{"a:1 a:3- a:5-", 2, ""}, {"a:1 a:3- a:5-", 3, "a:3 a:1"}, {"a:1 a:3- a:5-", 4, "a:3 a:1"}, {"a:1 a:3- a:5-", 5, "a:5 a:3 a:1"}, // a gone one behind a gone one
		{"a:1- a:2- a:3-", 2, "a:2 a:1"}, {"a:1- a:2- a:3-", 9, "a:3 a:2 a:1"}, {"a:1- a:2- a:3", 2, "a:2 a:1"}, {"a:1- a:2- a:3", 3, "a:2 a:1"},
		{"a:7 a:9 b:8", 6, ""}, {"a:7 a:9 b:8-", 6, ""}, {"a:7- a:9- b:8-", 6, ""}, {"a:7 a:9 b:8", 7, ""}, {"a:7- a:9- b:8-", 7, "a:7"}, // all behind w
		{"a:1 b:1 c:1", 9, ""}, {"a:1- b:1- c:1-", 9, "a:1 b:1 c:1"}, {"a:1- b:1 c:1-", 9, "a:1 c:1"}, {"a:1 b:1- c:1", 9, "b:1"}, // many
		{"a:1 a:2 b:1 b:2 c:1 c:2", 1, ""}, {"a:1 a:2 b:1 b:2 c:1 c:2", 2, "a:1 b:1 c:1"}, {"a:1 a:4 b:2 b:3 c:1 c:9-", 3, "b:2"}, {"a:1 a:4 b:2 b:3 c:1 c:9-", 9, "a:1 b:2 c:9 c:1"},
		{"a:1 a/b:2 ab:3", 9, ""}, {"a:1 a/b:2- ab:3", 9, "a/b:2"}, {"a:5- a/b:2 ab:3", 9, "a:5"}, {"a:1- a/b:1 a/b:2 ab:1-", 2, "a:1 a/b:1 ab:1"}, // one under another, or a beginning of it
		{"a:1 a!:1 a/b:1 a/b/c:1 a0:1 ab:1 a:2 a!:2 a/b:2 a/b/c:2 a0:2 ab:2", 2, "a:1 a!:1 a/b:1 a/b/c:1 a0:1 ab:1"},
		{"a:1 a!:2 a/b:3 a0:4", 3, ""}, {"a/b:1 a:2 a:3", 3, "a:2"}, {"a/b:3 a:1 a:2", 3, "a:1"}, {"a/b:3- a:1 a/b:1", 3, "a/b:3 a/b:1"},
	} {
		checkDead(t, c.versions, versions(c.versions), c.w, keys(c.dead))
	}
}

// Of versions at the first time and at the latest one that may be, asked for up to the greatest int.
func TestEdgesOfTimes(t *testing.T) {
	l := versions("a:0 a:1 a:999999999 a:1000000000 b:0- b:1 b:999999999- b:1000000000- c:1000000000 d:1000000000- e:0 f:0-")
	for _, c := range []struct {
		w    int
		dead string
	}{
		{0, "b:0 f:0"}, {1, "a:0 b:0 f:0"}, {2, "a:0 b:0 f:0"}, {latest - 2, "a:0 b:0 f:0"}, {latest - 1, "a:1 a:0 b:999999999 b:1 b:0 f:0"},
	} {
		checkDead(t, "edges", l, c.w, keys(c.dead))
	}
	for _, w := range []int{latest, latest + 1, mostNumber, 1 << 32, 1<<32 + 1, 1 << 62, math.MaxInt} {
		checkDead(t, "edges", l, w, keys("a:999999999 a:1 a:0 b:1000000000 b:999999999 b:1 b:0 d:1000000000 f:0"))
	}
}

// stores are rows of versions; they rise.
func stores() map[string][]api.Pair {
	return map[string][]api.Pair{
		"none":            nil,
		"one":             versions("a:3"),
		"one, gone":       versions("a:3-"),
		"the example":     versions("a:1 a:2 a:5 b:1 b:2-"),
		"edges":           versions("a:0 a:1 a:1000000000 b:0- b:1 b:1000000000- c:1000000000 e:0 f:0-"),
		"turned and gone": versions("a:1 a:2- a:3 a:5- b:2- b:3- b:4 c:9 c:8- d:7- d:6"),
		"below":           versions("a:1 a:4- a!:2 a!:3 a/b:2- a/b:5 a/b/c:3- a/b/c:4 a0:1 a0:6- ab:2 ab:3 ab:7"),
		"odd paths":       oddPaths(),
		"many":            many(200),
	}
}

func oddPaths() []api.Pair {
	var l []api.Pair
	for _, p := range []string{"\x01", " ", "!", "...", "..a", "é", "\xff", "\xff\xff", greatest[:30], greatest, strings.Repeat("a/", 49) + "bc"} {
		l = append(l, pair(p, 5, sizeOne), pair(p, 4, goneValue), pair(p, 2, sizeOne), pair(p, 1, sizeOne))
	}
	return sorted(l)
}

// many are n versions, some five of each path, every fourth one gone.
func many(n int) []api.Pair {
	var l []api.Pair
	for i := range n {
		val := valueBytes(i)
		if i%4 == 2 {
			val = goneValue
		}
		l = append(l, pair([]string{"a", "a!", "a/b", "a/b/c", "ab"}[i%5]+strconv.Itoa(100000+i/25), 3*(i/5%5)+i%2, val))
	}
	return sorted(l)
}

// times are those at which there is something in a row, those around them, and the edges.
func times(l []api.Pair) []int {
	all := []int{0, 1, 2, 3, latest - 1, latest, latest + 1, 1<<32 + 2, math.MaxInt}
	for _, p := range l {
		all = append(all, max(0, p.Key.At-1), p.Key.At, p.Key.At+1)
	}
	slices.Sort(all)
	return slices.Compact(all)
}

// pathsOf are the Paths of a row, and the root.
func pathsOf(l []api.Pair) []string {
	paths := []string{""}
	for _, p := range l {
		paths = append(paths, p.Key.Path)
	}
	return slices.Compact(paths)
}

func TestStores(t *testing.T) {
	for what, l := range stores() {
		for _, w := range times(l) {
			checkDead(t, what, l, w, deadOf(l, w))
			checkStays(t, what, l, w, pathsOf(l), times(l))
			for _, later := range times(l) {
				checkTwo(t, what, l, w, later)
			}
		}
	}
}

// told is what chapter 15 tells of some paths at a time.
func told(t *testing.T, x *tree.Tree, paths []string, at int) string {
	t.Helper()
	var all []api.Entry
	for _, p := range paths {
		f, there, e := store.AsOf(x, p, at)
		l, g := store.List(x, p, at)
		if e != api.OK || g != api.OK || there != (f.Path != "") {
			t.Errorf("P15.2: AsOf and List of %q at %d: %s, %v, %d; %s, %d", p, at, show(f), there, e, show(l), g)
		}
		all = append(append(append(all, f), l...), api.Entry{Path: "/"})
	}
	return fmt.Sprintf("%q", fmt.Sprintf("%+v", all))
}

// someOf are n of a row's at most, spread over it.
func someOf[T any](l []T, n int) []T {
	var some []T
	for i, x := range l {
		if i%(1+len(l)/n) == 0 {
			some = append(some, x)
		}
	}
	return some
}

// checkStays asks what is told of each time from w on ahead of a Run and behind it.
func checkStays(t *testing.T, what string, l []api.Pair, w int, paths []string, times []int) {
	t.Helper()
	x := made(l)
	z, _, _ := vacuum.Run(x, w)
	for _, at := range append([]int{w}, times...) {
		if at < w {
			continue
		}
		some := someOf(paths, 8)
		if was, is := told(t, x, some, at), told(t, z, some, at); was != is {
			t.Errorf("P18.3: %s: of %d was told %s; behind Run at %d %s", what, at, show(was), w, show(is))
		}
	}
}

// checkTwo asks of a Run at w, and one at a later time, whether they are as that one alone. At an earlier time there is nothing left to do.
func checkTwo(t *testing.T, what string, l []api.Pair, w, later int) {
	t.Helper()
	x := made(l)
	first, n, e := vacuum.Run(x, w)
	both, m, f := vacuum.Run(first, later)
	one, sum, g := vacuum.Run(x, max(w, later))
	if n+m != sum || e != api.OK || f != api.OK || g != api.OK {
		t.Errorf("P18.3: %s: Run at %d and at %d: %d, %d and %d, %d; at one alone %d, %d", what, w, later, n, e, m, f, sum, g)
	}
	checkPairs(t, fmt.Sprintf("P18.3: %s: Run at %d and at %d", what, w, later), both, one.All())
}

// everyStore calls f with every row of versions of these paths at these times: each one is there, gone, or left out.
func everyStore(paths []string, times []int, f func(l []api.Pair)) {
	rows := [][]api.Pair{nil}
	for _, p := range paths {
		for _, at := range times {
			var more [][]api.Pair
			for _, r := range rows {
				more = append(more, r, append(slices.Clone(r), pair(p, at, valueBytes(at))), append(slices.Clone(r), pair(p, at, goneValue)))
			}
			rows = more
		}
	}
	for _, r := range rows {
		f(sorted(r))
	}
}

func TestEveryShortStore(t *testing.T) {
	for _, c := range []struct {
		paths []string
		times []int
	}{
		{[]string{"a"}, []int{0, 1, 2, 3, 4, 5}}, {[]string{"a", "a/b"}, []int{1, 2, 3}}, {[]string{"a", "ab"}, []int{0, 1, latest}}, {[]string{"a!", "a/b", "a0"}, []int{2, 3}}, {[]string{"a", "a!", "a/b", "ab", "b"}, []int{1}},
	} {
		asked := []int{0, 1, 2, 3, 4, 5, latest - 1, latest, math.MaxInt}
		everyStore(c.paths, c.times, func(l []api.Pair) {
			if t.Failed() {
				return
			}
			for i, w := range asked {
				checkDead(t, show(l), l, w, deadOf(l, w))
				for _, later := range asked[i:] {
					checkTwo(t, show(l), l, w, later)
				}
			}
		})
	}
}

func TestEveryTimeFromThatOneOnStays(t *testing.T) {
	everyStore([]string{"a", "a/b"}, []int{0, 2, 3}, func(l []api.Pair) {
		if t.Failed() {
			return
		}
		for w := range 5 {
			checkStays(t, show(l), l, w, []string{"", "a", "a/b", "ab"}, []int{0, 1, 2, 3, 4, latest, math.MaxInt})
		}
	})
}

// What is told of an earlier time need not stay: what no longer stands is not told.
func TestEarlierTimesDoNotStay(t *testing.T) {
	x := made(versions("a:1 a:3"))
	z, _, _ := vacuum.Run(x, 3)
	was, _, _ := store.AsOf(x, "a", 2)
	is, there, e := store.AsOf(z, "a", 2)
	if was.At != 1 || there || is.Path != "" || e != api.OK {
		t.Errorf("P18.2: of 2 was told %s; behind Run at 3 %s, %v, %d; want none", show(was), show(is), there, e)
	}
}

// What is laid behind a Run is told as if there had been none.
func TestWhatIsLaidBehind(t *testing.T) {
	batch := []api.Change{{Path: "a", Gone: true}, {Path: "a/b", Meta: api.Meta{Size: 7}}, {Path: "c", Meta: api.Meta{Size: 8}}}
	everyStore([]string{"a", "a/b", "b"}, []int{1, 2}, func(l []api.Pair) {
		for w := range 4 {
			x := made(l)
			z, _, _ := vacuum.Run(x, w)
			x, e := store.Lay(x, 3, batch)
			z, f := store.Lay(z, 3, batch)
			if e != api.OK || f != api.OK {
				t.Fatalf("P18.3: %s: Lay behind Run at %d: %d, %d", show(l), w, e, f)
			}
			for at := w; at < 5; at++ {
				paths := []string{"", "a", "a/b", "b", "c"}
				if was, is := told(t, x, paths, at), told(t, z, paths, at); was != is {
					t.Errorf("P18.3: %s: of %d is told %s; with a Run at %d ahead of Lay %s", show(l), at, show(was), w, show(is))
				}
			}
		}
	})
}

// Live and Of make up all versions; the keys rise, each one is a version's.
func TestLiveAndOfMakeUpAll(t *testing.T) {
	for what, l := range stores() {
		x := made(l)
		for _, w := range times(l) {
			k, e := vacuum.Of(x, w)
			n, f := vacuum.Live(x, w)
			if n+len(k) != len(l) || e != api.OK || f != api.OK {
				t.Errorf("P18.1: %s: at %d %d, %d are dead, %d, %d not, of %d", what, w, len(k), e, n, f, len(l))
			}
			for i := range k {
				if i > 0 && !ahead(k[i-1], k[i]) {
					t.Errorf("P18.1: %s: Of at %d: %s stands behind %s", what, w, show(k[i]), show(k[i-1]))
				}
				if _, ok := x.Get(k[i]); !ok {
					t.Errorf("P18.1: %s: Of at %d: %s is no version's", what, w, show(k[i]))
				}
			}
		}
	}
}

// Whatever gone bytes and metas there are: only a byte 0 alone is gone.
func TestValues(t *testing.T) {
	for _, val := range []string{sizeOne, "\x01\x00\x00\x00", "\x01\x00\x00\x01\x01\x00", "\x01" + numbersBytes(latest, 4095, 1, mostNumber), "\x01" + numbersBytes(0, 0, 16) + strings.Repeat("\x00", 16), "\x01\x02\x01\x2c\x01\x07\x01\x01\x01\x05"} {
		l := []api.Pair{pair("a", 5, val), pair("a", 3, val), pair("b", 3, goneValue), pair("b", 2, val)}
		checkDead(t, show(val), l, 2, nil)
		checkDead(t, show(val), l, 3, keys("b:3 b:2"))
		checkDead(t, show(val), l, 5, keys("a:3 b:3 b:2"))
	}
}

// Long rows: of many paths, and of one path many times.
func TestLongStores(t *testing.T) {
	long := map[string][]api.Pair{"many paths": many(6000)}
	for what, every := range map[string]int{"one path": 0, "one path, every fifth gone": 5, "one path, all gone": 1} {
		var l []api.Pair
		for at := range 3000 {
			val := valueBytes(at)
			if every > 0 && at%every == 0 {
				val = goneValue
			}
			l = append(l, pair("a", at, val))
		}
		long[what] = sorted(append(l, pair("A", 1500, sizeOne), pair("b", 1500, goneValue)))
	}
	for what, l := range long {
		for _, w := range []int{0, 1, 6, 13, 1499, 1500, 1501, 2999, latest} {
			checkDead(t, what, l, w, deadOf(l, w))
		}
		checkTwo(t, what, l, 6, 1501)
		checkStays(t, what, l, 6, pathsOf(l), []int{7, 1500, latest})
	}
}

func TestNoPairs(t *testing.T) {
	for what, x := range map[string]*tree.Tree{"nil": nil, "new": tree.New(), "one put, and dropped": tree.New().Put(api.Pair{}).Drop(api.Key{})} {
		for _, w := range []int{0, 1, latest, latest + 1, math.MaxInt} {
			k, e := vacuum.Of(x, w)
			n, f := vacuum.Live(x, w)
			z, m, g := vacuum.Run(x, w)
			if len(k) != 0 || n != 0 || m != 0 || e != api.OK || f != api.OK || g != api.OK {
				t.Errorf("P18.1: %s: at %d: Of %s, %d; Live %d, %d; Run %d, %d", what, w, show(k), e, n, f, m, g)
			}
			if z == nil || z.Len() != 0 {
				t.Errorf("P18.2: %s: Run at %d: %s; want a tree without pairs", what, w, show(z))
			}
		}
		for _, w := range noTimes() {
			checkRefused(t, what, x, w)
		}
	}
}

func noTimes() []int {
	return []int{-1, -2, -3, -latest, -1 << 32, -1<<32 + 3, math.MinInt + 1, math.MinInt}
}

func TestTimesBelowZero(t *testing.T) {
	for what, l := range stores() {
		for _, w := range noTimes() {
			checkRefused(t, what, made(l), w)
		}
	}
}

// noVersions are pairs that are none, each for one reason: of the root, of a Path that is none, at a time that is none, and with bytes that are no value's.
func noVersions() []api.Pair {
	l := []api.Pair{{}, pair("", 0, sizeOne), pair("", 3, sizeOne), pair("", latest, goneValue)}
	for _, s := range []string{"/", "//", "/a", "a/", "a//b", ".", "..", "a/.", "a/..", "../a", "\x00", "a\x00", "a\x00b", "z/", name31, "a/" + name31, strings.Repeat("a/", 50) + "a", greatest + "\xff"} {
		l = append(l, pair(s, 3, sizeOne), pair(s, 3, goneValue))
	}
	for _, at := range []int{math.MinInt, -1 << 32, -1<<32 + 3, -1, latest + 1, mostNumber, 1<<32 + 3, math.MaxInt} {
		l = append(l, pair("m", at, sizeOne), pair("m", at, goneValue))
	}
	for _, val := range []string{"", "x", "\x01", "\x02", "\x00\x00", "\x00" + sizeOne, "\x01\x00\x00", "\x01\x01\x00\x00\x00", sizeOne[:4], sizeOne + "\x00", "\x01" + numbersBytes(latest+1, 0, 0), "\x01" + numbersBytes(0, 4096, 0), "\x01" + numbersBytes(0, 0, 17) + strings.Repeat("\x00", 17)} {
		l = append(l, pair("A", 3, val), pair("m", 3, val), pair("z", 3, val))
	}
	return l
}

// A tree is no store for one pair that is no version, alone and among others, dead or not.
func TestNoStores(t *testing.T) {
	for _, p := range noVersions() {
		for _, l := range [][]api.Pair{nil, versions("a:1 a:3 b:1 b:2-"), versions("m:1 m:2- m:9")} {
			x := made(l).Put(p)
			for _, w := range append(noTimes(), 0, 1, 2, 3, 4, latest, math.MaxInt) {
				checkRefused(t, show(p), x, w)
			}
			checkPairs(t, "R2: "+show(p)+": the tree that came in", x, sorted(append(slices.Clone(l), p)))
		}
	}
	for what, l := range stores() {
		for i, p := range noVersions() {
			if i%9 == 0 {
				x := made(l).Put(p)
				checkRefused(t, what+", and "+show(p), x, 3)
				checkRefused(t, what+", and "+show(p), x, -1)
			}
		}
	}
}

// overwrite goes up to the end of the room behind the last one.
func overwrite(l []api.Key) {
	l = l[:cap(l)]
	for i := range l {
		l[i] = api.Key{Path: "overwritten", At: 77}
	}
}

// What is told stands on its own: written over, it changes neither another answer nor what is told later.
func TestAnswersPlayNoPartInLaterCalls(t *testing.T) {
	for what, l := range stores() {
		x := made(l)
		for _, w := range times(l) {
			want := deadOf(l, w)
			first, _ := vacuum.Of(x, w)
			second, _ := vacuum.Of(x, w)
			overwrite(first)
			if !slices.Equal(second, want) {
				t.Errorf("R2: %s: Of at %d behind an answer that was written over: %s; want %s", what, w, show(second), show(want))
			}
			overwrite(second)
			checkPairs(t, "R2: "+what+": the tree behind answers that were written over", x, l)
			if third, e := vacuum.Of(x, w); !slices.Equal(third, want) || e != api.OK {
				t.Errorf("R2: %s: Of at %d behind answers that were written over: %s, %d; want %s", what, w, show(third), e, show(want))
			}
		}
	}
}

// Whatever is put into what a Run tells, or dropped from it, neither the tree that came in nor another Run's changes.
func TestTreesStandOnTheirOwn(t *testing.T) {
	for what, l := range stores() {
		x := made(l)
		for _, w := range someOf(times(l), 8) {
			left := without(l, deadOf(l, w))
			first, _, _ := vacuum.Run(x, w)
			second, _, _ := vacuum.Run(x, w)
			other := first
			for i, p := range l {
				if i%2 == 0 {
					other = other.Drop(p.Key)
				} else {
					other = other.Put(pair(p.Key.Path, p.Key.At, "overwritten"))
				}
			}
			checkPairs(t, "R2: "+what+": the tree that came in", x, l)
			checkPairs(t, "R2: "+what+": what Run told", first, left)
			checkPairs(t, "R2: "+what+": what another Run told", second, left)
		}
	}
}

// FuzzStore makes versions of three bytes each: a path, a time, and what it is.
func FuzzStore(f *testing.F) {
	f.Add([]byte{}, 0, 3)
	f.Add([]byte{1, 1, 1, 1, 2, 1, 1, 5, 1, 2, 1, 1, 2, 2, 0}, 3, 9)
	f.Add([]byte{3, 1, 0, 3, 2, 0, 3, 3, 1, 0, 2, 1, 5, 1, 0}, 2, latest)
	var long []byte
	for i := range 400 {
		long = append(long, byte(i*7), byte(i/9), byte(i*5))
	}
	f.Add(long, 17, 30)
	names := []string{"a", "a!", "a-", "a/b", "a/b!", "a/b/c", "a0", "ab", "ab/c", "b", greatest}
	f.Fuzz(func(t *testing.T, b []byte, w, later int) {
		x := tree.New()
		for b = b[:min(len(b), 1500)]; len(b) >= 3; b = b[3:] {
			val := valueBytes(int(b[2]))
			if b[2]%4 == 0 {
				val = goneValue
			}
			x = x.Put(pair(names[int(b[0])%len(names)], int(b[1]), val))
		}
		if w < 0 {
			checkRefused(t, "fuzz", x, w)
			return
		}
		l := x.All()
		for _, w := range []int{w, w % 256} {
			checkDead(t, "fuzz", l, w, deadOf(l, w))
			checkStays(t, "fuzz", l, w, append(names, ""), []int{0, 1, w + (math.MaxInt-w)/2, max(0, later), max(0, later) % 256})
			checkTwo(t, "fuzz", l, w, max(0, later))
			checkTwo(t, "fuzz", l, w, max(0, later)%256)
		}
	})
}

// FuzzPair puts any pair among versions.
func FuzzPair(f *testing.F) {
	f.Add("a", 3, sizeOne, 3)
	f.Add("b", 3, goneValue, 3)
	f.Add("", 3, sizeOne, 2)
	f.Add("a/", 3, goneValue, 9)
	f.Add("z", -1, goneValue, 0)
	f.Add(greatest+"\xff", 0, "x", -1)
	f.Fuzz(func(t *testing.T, path string, at int, val string, w int) {
		for _, l := range [][]api.Pair{nil, versions("a:1 a:3- a:5 a/b:2 a/b:4 b:1 b:2-")} {
			x := made(l).Put(pair(path, at, val))
			if w < 0 || !store.Is(x) {
				checkRefused(t, "fuzz", x, w)
				continue
			}
			checkDead(t, "fuzz", x.All(), w, deadOf(x.All(), w))
			checkStays(t, "fuzz", x.All(), w, []string{"", "a", path}, []int{at, latest})
		}
	})
}
