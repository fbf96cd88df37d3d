package diff_test

import (
	"fmt"
	"maps"
	"math"
	"slices"
	"strconv"
	"strings"
	"testing"

	"sexton/api"
	"sexton/diff"
	"sexton/store"
	"sexton/tree"
)

const latest = 1000000000

// The Kinds, as the document numbers them.
const (
	isNew     = 1
	isAnother = 2
	isGone    = 3
)

// signs stand at the places of the Kinds.
const signs = " +~-"

var path100 = strings.Repeat("a/", 49) + "bc"

// files is a row written as `a1 b2`: of each one the Path, and a digit, its Size. It was laid at 1.
func files(s string) []api.Entry {
	var l []api.Entry
	for _, w := range strings.Fields(s) {
		n := len(w) - 1
		l = append(l, api.Entry{Path: w[:n], At: 1, Meta: api.Meta{Size: int(w[n] - '0')}})
	}
	return l
}

// deltas is a row written as `a+ b~ c-`: of each one the Path, and the sign of its Kind.
func deltas(s string) []api.Delta {
	var l []api.Delta
	for _, w := range strings.Fields(s) {
		n := len(w) - 1
		l = append(l, api.Delta{Path: w[:n], Kind: strings.IndexByte(signs, w[n])})
	}
	return l
}

func file(path string, at int, m api.Meta) api.Entry { return api.Entry{Path: path, At: at, Meta: m} }

func delta(path string, kind int) api.Delta { return api.Delta{Path: path, Kind: kind} }

func metaOf(size, mode int, chunks ...int) api.Meta {
	return api.Meta{Size: size, Mode: mode, Chunks: chunks}
}

func sized(p string, n int) api.Change { return api.Change{Path: p, Meta: metaOf(n, 0)} }

func gone(p string) api.Change { return api.Change{Path: p, Gone: true} }

// show cuts a long text so that a failure can be read.
func show(x any) string {
	s := fmt.Sprintf("%+q", fmt.Sprintf("%+v", x))
	if len(s) > 300 {
		s = s[:300] + ".."
	}
	return s
}

// The document's words, told by other means than the program's.

// sameMeta goes by what is printed: no Chunks look the same, nil or not.
func sameMeta(a, b api.Meta) bool { return fmt.Sprint(a) == fmt.Sprint(b) }

// allPaths are those of both, each once, rising.
func allPaths[T any](a, b map[string]T) []string {
	all := maps.Clone(a)
	maps.Copy(all, b)
	return slices.Sorted(maps.Keys(all))
}

func metasOf(l []api.Entry) map[string]api.Meta {
	m := map[string]api.Meta{}
	for _, f := range l {
		m[f.Path] = f.Meta
	}
	return m
}

// between asks for the files of two times.
func between(a, b map[string]api.Meta) []api.Delta {
	var l []api.Delta
	for _, p := range allPaths(a, b) {
		was, inA := a[p]
		is, inB := b[p]
		switch {
		case !inA:
			l = append(l, delta(p, isNew))
		case !inB:
			l = append(l, delta(p, isGone))
		case !sameMeta(was, is):
			l = append(l, delta(p, isAnother))
		}
	}
	return l
}

func kindsOf(l []api.Delta) map[string]int {
	m := map[string]int{}
	for _, d := range l {
		m[d.Path] = d.Kind
	}
	return m
}

// joinedKind is 0 for none.
func joinedKind(first, second int, inFirst, inSecond bool) int {
	switch {
	case !inSecond:
		return first
	case !inFirst:
		return second
	case first == isNew && second == isGone:
		return 0
	case first == isGone && second == isNew:
		return isAnother
	case first == isAnother && second == isGone:
		return isGone
	}
	return first
}

func joined(a, b []api.Delta) []api.Delta {
	first, second := kindsOf(a), kindsOf(b)
	var l []api.Delta
	for _, p := range allPaths(first, second) {
		k, inFirst := first[p]
		n, inSecond := second[p]
		if kind := joinedKind(k, n, inFirst, inSecond); kind != 0 {
			l = append(l, delta(p, kind))
		}
	}
	return l
}

func turned(l []api.Delta) []api.Delta {
	var back []api.Delta
	for _, d := range l {
		back = append(back, delta(d.Path, map[int]int{isNew: isGone, isAnother: isAnother, isGone: isNew}[d.Kind]))
	}
	return back
}

func isUnder(dir, s string) bool { return dir == "" || strings.HasPrefix(s+"/", dir+"/") }

func checkEntries(t *testing.T, a, b []api.Entry, want []api.Delta) {
	t.Helper()
	if l := diff.Entries(a, b); !slices.Equal(l, want) {
		t.Errorf("P16.1: Entries of %s and %s: %s; want %s", show(a), show(b), show(l), show(want))
	}
}

func checkBack(t *testing.T, l, want []api.Delta) {
	t.Helper()
	if back := diff.Back(l); !slices.Equal(back, want) {
		t.Errorf("P16.2: Back of %s: %s; want %s", show(l), show(back), show(want))
	}
}

func checkThen(t *testing.T, a, b, want []api.Delta) {
	t.Helper()
	if l := diff.Then(a, b); !slices.Equal(l, want) {
		t.Errorf("P16.2: Then of %s and %s: %s; want %s", show(a), show(b), show(l), show(want))
	}
}

func checkOf(t *testing.T, what string, x *tree.Tree, dir string, from, to int, want []api.Delta, wantErr api.Errno) {
	t.Helper()
	if l, e := diff.Of(x, dir, from, to); !slices.Equal(l, want) || e != wantErr {
		t.Errorf("P16.1: %s: Of %s, %d, %d: %s, %d; want %s, %d", what, show(dir), from, to, show(l), e, show(want), wantErr)
	}
}

func TestExample(t *testing.T) {
	a := []api.Entry{file("a", 1, metaOf(1, 0)), file("b", 1, metaOf(0, 0))}
	b := []api.Entry{file("a", 3, metaOf(2, 0)), file("c", 3, metaOf(0, 0))}
	checkEntries(t, a, b, []api.Delta{{Path: "a", Kind: 2}, {Path: "b", Kind: 3}, {Path: "c", Kind: 1}})
}

func TestEntriesByHand(t *testing.T) {
	for _, c := range []struct{ a, b, want string }{
		{"", "", ""}, {"a1", "", "a-"}, {"", "a1", "a+"}, {"a1", "a1", ""}, {"a1", "a2", "a~"}, {"a1", "b1", "a- b+"}, {"b1", "a1", "a+ b-"}, // none, and one
		{"a1 b1 c1", "", "a- b- c-"}, {"", "a1 b1 c1", "a+ b+ c+"}, {"a1 b1 c1", "a1 b1 c1", ""}, {"a1 b1 c1", "a2 b2 c2", "a~ b~ c~"}, // many
		{"a1 b1 c1", "b1 c1", "a-"}, {"a1 b1 c1", "a1 c1", "b-"}, {"a1 b1 c1", "a1 b1", "c-"}, // only the first row's
		{"b1 c1", "a1 b1 c1", "a+"}, {"a1 c1", "a1 b1 c1", "b+"}, {"a1 b1", "a1 b1 c1", "c+"}, // only the second one's
		{"a1 b1 c1", "a2 b1 c1", "a~"}, {"a1 b1 c1", "a1 b2 c1", "b~"}, {"a1 b1 c1", "a1 b1 c2", "c~"}, // both's
		{"a1 b1", "c1 d1", "a- b- c+ d+"}, {"c1 d1", "a1 b1", "a+ b+ c- d-"}, {"a1 c1 e1", "b1 d1 f1", "a- b+ c- d+ e- f+"}, // none of them both's
		{"a1 b1 c1", "c2", "a- b- c~"}, {"c1", "a1 b1 c2", "a+ b+ c~"}, {"a1", "a2 b1 c1", "a~ b+ c+"}, {"a1 b1 c1", "a2", "a~ b- c-"}, // both's at unlike places
		{"a1", "ab1", "a- ab+"}, {"ab1", "a1", "a+ ab-"}, {"a1", "a/b1", "a- a/b+"}, {"a/b1", "ab1", "a/b- ab+"}, {"ab1", "a/b1", "a/b+ ab-"}, // one begins another
		{"a1 a/b1 ab1", "a1 a/b2 ab1", "a/b~"}, {"a1 ab1", "a1 a/b1 ab2", "a/b+ ab~"}, {"a/b1", "a1 ab1", "a+ a/b- ab+"},
		{"a!1 a/b1", "a1 a-1 a01", "a+ a!- a-+ a/b- a0+"}, {"a1 a/b1 a0/b1", "a!/b1 a.1 a/b2", "a- a!/b+ a.+ a/b~ a0/b-"}, // around '/'
		{"a\xff1 é1", "a/\xff1 z1", "a/\xff+ a\xff- z+ é-"},
	} {
		checkEntries(t, files(c.a), files(c.b), deltas(c.want))
	}
}

// metas are unlike, each two of them; they differ in one thing alone, or in several.
func metas() []api.Meta {
	return []api.Meta{
		{}, metaOf(1, 0), metaOf(0, 1), metaOf(1, 1), metaOf(2, 1), metaOf(1, 2), metaOf(latest, 4095), metaOf(latest-1, 4095), metaOf(latest, 4094),
		metaOf(0, 0, 0), metaOf(0, 0, 1), metaOf(1, 0, 0), metaOf(0, 1, 0), metaOf(0, 0, 4294967295),
		metaOf(0, 0, 0, 0), metaOf(0, 0, 0, 1), metaOf(0, 0, 1, 0), metaOf(0, 0, 5, 6, 7), metaOf(0, 0, 4, 6, 7), metaOf(0, 0, 5, 0, 7), metaOf(0, 0, 5, 6, 8), metaOf(0, 0, 7, 6, 5), metaOf(0, 0, 5, 6),
		metaOf(0, 0, make([]int, 15)...), metaOf(0, 0, make([]int, 16)...), metaOf(0, 0, append(make([]int, 15), 1)...),
		metaOf(math.MaxInt, 0), metaOf(-1, 0), metaOf(0, -1), metaOf(1<<32, 0), metaOf(0, 1<<32), metaOf(0, 0, 1<<32), metaOf(0, 0, make([]int, 300)...), // that may not be
	}
}

func TestMetas(t *testing.T) {
	for i, m := range metas() {
		for k, n := range metas() {
			for _, at := range []int{0, 1, 2, latest} {
				a, b := []api.Entry{file("a", 1, m)}, []api.Entry{file("a", at, n)}
				want := deltas("a~")
				if i == k {
					want = nil
				}
				checkEntries(t, a, b, want)
				// And between others, of which one is another one.
				a = append(append(files("A1"), a...), files("z1")...)
				b = append(append(files("A1"), b...), files("z2")...)
				checkEntries(t, a, b, append(want, deltas("z~")...))
			}
		}
	}
	none := []api.Entry{file("a", 1, api.Meta{Chunks: nil})}
	empty := []api.Entry{file("a", 1, api.Meta{Chunks: []int{}})}
	checkEntries(t, none, empty, nil)
	checkEntries(t, empty, none, nil)
}

// everyRow calls f with every row of these Paths; what stands in a row is one of those that each one is asked for, or nothing.
func everyRow[T any](paths []string, each func(path string) []T, f func(l []T)) {
	rows := [][]T{nil}
	for _, p := range paths {
		var more [][]T
		for _, r := range rows {
			more = append(more, r)
			for _, x := range each(p) {
				more = append(more, append(slices.Clone(r), x))
			}
		}
		rows = more
	}
	for _, r := range rows {
		f(r)
	}
}

func everyFile(p string) []api.Entry {
	return []api.Entry{file(p, 1, metaOf(1, 7, 5)), file(p, 2, metaOf(1, 7, 6))}
}

func everyDelta(p string) []api.Delta {
	return []api.Delta{delta(p, isNew), delta(p, isAnother), delta(p, isGone)}
}

// around are Paths of which one begins others, with names whose bytes stand before and behind '/'; they rise.
func around() []string { return []string{"a", "a!", "a/b", "ab"} }

func TestEveryPairOfRowsOfEntries(t *testing.T) {
	everyRow(around(), everyFile, func(a []api.Entry) {
		everyRow(around(), everyFile, func(b []api.Entry) {
			checkEntries(t, a, b, between(metasOf(a), metasOf(b)))
		})
	})
}

// Paths are bytes: whether one is a path is not asked.
func TestOddPaths(t *testing.T) {
	paths := []string{"", "\x00", " ", "..", "/", "//", "a", "a\x00", "a/", "a\x00b", strings.Repeat("x", 101), path100, "é", "\xff", "\xff\xff", strings.Repeat("y", 1<<20)}
	slices.Sort(paths)
	for _, p := range paths {
		for _, q := range paths {
			a, b := []api.Entry{file(p, 1, metaOf(1, 0))}, []api.Entry{file(q, 1, metaOf(2, 0))}
			checkEntries(t, a, b, between(metasOf(a), metasOf(b)))
			for _, k := range []int{isNew, isAnother, isGone} {
				for _, n := range []int{isNew, isAnother, isGone} {
					c, d := []api.Delta{delta(p, k)}, []api.Delta{delta(q, n)}
					checkThen(t, c, d, joined(c, d))
				}
			}
		}
	}
}

// long is n Paths that rise, of which every skip-th is left out.
func long(n, skip int) []string {
	var l []string
	for i := range n {
		if i%skip != 0 {
			l = append(l, "f"+strconv.Itoa(1000000+i))
		}
	}
	return l
}

func TestLongRows(t *testing.T) {
	for _, n := range []int{2, 10, 100, 3000} {
		for _, skip := range []int{2, 3, 5, n} {
			var a, b []api.Entry
			var c, d []api.Delta
			for i, p := range long(n, skip) {
				a, c = append(a, file(p, 1, metaOf(i, 7, i))), append(c, delta(p, 1+i%3))
			}
			for i, p := range long(n+9, 4) {
				b, d = append(b, file(p, 2, metaOf(i, 7, i))), append(d, delta(p, 1+i/3%3))
			}
			checkEntries(t, a, b, between(metasOf(a), metasOf(b)))
			checkEntries(t, b, a, between(metasOf(b), metasOf(a)))
			checkEntries(t, a, a, nil)
			checkThen(t, c, d, joined(c, d))
			checkThen(t, d, c, joined(d, c))
			checkBack(t, c, turned(c))
		}
	}
}

func TestBackByHand(t *testing.T) {
	for l, want := range map[string]string{
		"": "", "a+": "a-", "a-": "a+", "a~": "a~", "a+ b~ c-": "a- b~ c+", "a- a!+ a/b- ab~": "a+ a!- a/b+ ab~", "a+ b+ c+": "a- b- c-", "a- b- c-": "a+ b+ c+", "a~ b~ c~": "a~ b~ c~",
	} {
		checkBack(t, deltas(l), deltas(want))
	}
}

func TestThenByHand(t *testing.T) {
	for _, c := range []struct{ a, b, want string }{
		{"", "", ""}, {"a+", "", "a+"}, {"a~", "", "a~"}, {"a-", "", "a-"}, {"", "a+", "a+"}, {"", "a~", "a~"}, {"", "a-", "a-"}, // of one alone
		{"a+", "a+", "a+"}, {"a+", "a~", "a+"}, {"a+", "a-", ""}, {"a~", "a+", "a~"}, {"a~", "a~", "a~"}, {"a~", "a-", "a-"}, {"a-", "a+", "a~"}, {"a-", "a~", "a-"}, {"a-", "a-", "a-"}, // of both
		{"a+ b~ c-", "", "a+ b~ c-"}, {"", "a+ b~ c-", "a+ b~ c-"}, {"a+ c-", "b~ d+", "a+ b~ c- d+"}, {"c- d+", "a~ b-", "a~ b- c- d+"},
		{"a+ b+ c+", "a-", "b+ c+"}, {"a+ b+ c+", "b-", "a+ c+"}, {"a+ b+ c+", "c-", "a+ b+"}, {"a+ b+ c+", "a- b- c-", ""}, {"a+", "a- b~ c-", "b~ c-"}, {"b+", "a- b- c-", "a- c-"}, {"c+", "a- b~ c-", "a- b~"},
		{"a-", "a/b+ ab-", "a- a/b+ ab-"}, {"a+ a/b+ ab+", "a- a/b- ab~", "ab+"}, {"a~ ab~", "a!+ a/b- ab-", "a~ a!+ a/b- ab-"},
	} {
		checkThen(t, deltas(c.a), deltas(c.b), deltas(c.want))
	}
}

func TestEveryPairOfRowsOfDeltas(t *testing.T) {
	everyRow(around(), everyDelta, func(a []api.Delta) {
		checkBack(t, a, turned(a))
		checkBack(t, diff.Back(a), a)
		everyRow(around()[1:], everyDelta, func(b []api.Delta) {
			checkThen(t, a, b, joined(a, b))
			checkThen(t, b, a, joined(b, a))
		})
	})
}

// Rows that do not rise, in which a Path stands twice, or with numbers that are no Kinds: what is told of them is not promised, but that the calls end.
func TestOtherRowsEnd(t *testing.T) {
	rows := []string{"", "a1", "b1 a1", "a1 a1", "a1 a2", "a1 a1 a1", "a2 b1 a1 b1", "ab1 a/b1 a1", "c1 b1 a1", "b1 b1 c1", "z1 a1 z1 a1", strings.Repeat("x1 ", 2000), strings.Repeat("b1 a1 ", 2000)}
	for _, a := range rows {
		for _, b := range rows {
			diff.Entries(files(a), files(b))
		}
	}
	kinds := []int{math.MinInt, -1 << 32, -3, -2, -1, 0, isNew, isAnother, isGone, 4, 5, 7, 8, 255, 256, 257, 1 << 32, 1<<32 + 1, math.MaxInt}
	var all [][]api.Delta
	for i, a := range rows {
		var l []api.Delta
		for k, f := range files(a) {
			l = append(l, delta(f.Path, kinds[(i*7+k*5)%len(kinds)]))
		}
		all = append(all, l)
	}
	for _, k := range kinds {
		all = append(all, []api.Delta{delta("a", k)}, []api.Delta{delta("a", k), delta("b", isNew), delta("c", k)})
	}
	for _, a := range all {
		diff.Back(a)
		for _, b := range all {
			diff.Then(a, b)
		}
	}
}

// step is a batch, and the time at which it is laid.
type step struct {
	at int
	l  []api.Change
}

func laid(t *testing.T, history []step) *tree.Tree {
	t.Helper()
	x := tree.New()
	for _, s := range history {
		y, e := store.Lay(x, s.at, s.l)
		if e != api.OK {
			t.Fatalf("P15.1: Lay at %d of %s: %d", s.at, show(s.l), e)
		}
		x = y
	}
	return x
}

// filesAt are those under dir at a time, by what was laid up to it.
func filesAt(history []step, dir string, at int) map[string]api.Meta {
	m := map[string]api.Meta{}
	for _, s := range history {
		for _, c := range s.l {
			switch {
			case s.at > at || !isUnder(dir, c.Path):
			case c.Gone:
				delete(m, c.Path)
			default:
				m[c.Path] = c.Meta
			}
		}
	}
	return m
}

// someHistory has files that stay, turn, are laid again as they were, are gone, and are laid anew, as they were and as others.
func someHistory() []step {
	return []step{
		{2, []api.Change{sized("a", 1), sized("a!", 1), sized("a/b", 1), sized("ab", 1), sized("anew", 1), sized("b/c", 1), sized("b/d/e", 1), sized("stays", 1)}},
		{4, []api.Change{sized("a", 2), gone("a!"), gone("a/b"), gone("anew"), {Path: "b/c", Meta: metaOf(1, 7)}, {Path: "b/d/e", Meta: metaOf(1, 0, 5)}}},
		{6, []api.Change{sized("a", 1), sized("a!", 1), sized("a/b", 2), sized("a0", 1), gone("ab"), sized("b/c", 1), gone("never")}},
		{latest, []api.Change{gone("a"), sized("anew", 2), sized("b", 1), {Path: "b/d/e", Meta: metaOf(1, 0, 5, 6)}, sized("stays", 1)}},
	}
}

func TestOfByHand(t *testing.T) {
	x := laid(t, someHistory())
	for _, c := range []struct {
		dir      string
		from, to int
		want     string
	}{
		{"", 0, 0, ""}, {"", 2, 2, ""}, {"", 3, 3, ""}, {"", 4, 4, ""}, {"", latest, latest, ""}, {"", math.MaxInt, math.MaxInt, ""}, // to the same
		{"", 0, 1, ""}, {"", 1, 0, ""}, {"", 2, 3, ""}, {"", 5, 4, ""}, {"", 6, latest - 1, ""}, {"", latest, math.MaxInt, ""}, // nothing laid between
		{"", 0, 2, "a+ a!+ a/b+ ab+ anew+ b/c+ b/d/e+ stays+"}, {"", 1, 3, "a+ a!+ a/b+ ab+ anew+ b/c+ b/d/e+ stays+"}, {"", 2, 1, "a- a!- a/b- ab- anew- b/c- b/d/e- stays-"}, // ahead of the first version
		{"", 2, 4, "a~ a!- a/b- anew- b/c~ b/d/e~"}, {"", 3, 5, "a~ a!- a/b- anew- b/c~ b/d/e~"}, {"", 5, 2, "a~ a!+ a/b+ anew+ b/c~ b/d/e~"},
		{"", 4, 6, "a~ a!+ a/b+ a0+ ab- b/c~"}, {"", 2, 6, "a/b~ a0+ ab- anew- b/d/e~"}, {"", 7, 3, "a/b~ a0- ab+ anew+ b/d/e~"},
		{"", 6, latest, "a- anew+ b+ b/d/e~"}, {"", latest + 1, 1000, "a+ anew- b- b/d/e~"}, {"", 3, math.MaxInt, "a- a/b~ a0+ ab- anew~ b+ b/d/e~"}, {"", 1, latest, "a!+ a/b+ a0+ anew+ b+ b/c+ b/d/e+ stays+"},
		{"a", 2, 4, "a~ a/b-"}, {"a", 4, 6, "a~ a/b+"}, {"a", 2, 6, "a/b~"}, {"a", 2, latest, "a- a/b~"}, {"a", 0, 9, "a+ a/b+"}, // a file, and one under it
		{"b", 2, 4, "b/c~ b/d/e~"}, {"b", 2, 6, "b/d/e~"}, {"b", 4, latest, "b+ b/c~ b/d/e~"}, {"b/d", 1, 3, "b/d/e+"}, {"b/d", latest, 6, "b/d/e~"}, {"b/d", 4, 6, ""}, // files under it
		{"a/b", 2, 4, "a/b-"}, {"a/b", 4, 6, "a/b+"}, {"a/b", 2, 6, "a/b~"}, {"a!", 2, 6, ""}, {"a!", 2, 5, "a!-"}, {"anew", 3, 6, "anew-"}, {"anew", 3, latest, "anew~"}, {"stays", 2, latest, ""}, {"stays", 1, latest, "stays+"}, // a file
		{"never", 0, latest, ""}, {"aa", 0, latest, ""}, {"a/b/c", 0, latest, ""}, {"z", 4, 2, ""}, {path100, 0, latest, ""}, // that has none
	} {
		checkOf(t, "by hand", x, c.dir, c.from, c.to, deltas(c.want), api.OK)
	}
}

// dirs have files of their own in some histories, in some only others under them; some have none.
func dirs() []string {
	return []string{"", "a", "a!", "a/b", "a0", "ab", "anew", "b", "b/d", "never", path100}
}

func times() []int {
	return []int{0, 1, 2, 3, 4, 5, 6, 7, latest - 1, latest, latest + 1, 1<<32 + 2, math.MaxInt}
}

func TestOfEveryTwoTimes(t *testing.T) {
	h := someHistory()
	x := laid(t, h)
	for _, dir := range dirs() {
		for _, from := range times() {
			for _, to := range times() {
				want := between(filesAt(h, dir, from), filesAt(h, dir, to))
				checkOf(t, "some history", x, dir, from, to, want, api.OK)
				was, _ := store.List(x, dir, from)
				is, _ := store.List(x, dir, to)
				checkEntries(t, was, is, want)
			}
		}
	}
}

func TestOfNoPairs(t *testing.T) {
	for what, x := range map[string]*tree.Tree{"nil": nil, "new": tree.New(), "one put, and dropped": tree.New().Put(api.Pair{}).Drop(api.Key{})} {
		for _, dir := range dirs() {
			for _, from := range times() {
				checkOf(t, what, x, dir, from, 3, nil, api.OK)
			}
			checkOf(t, what, x, dir, 3, -1, nil, api.ErrArg)
			checkOf(t, what, x, dir, -1, 3, nil, api.ErrArg)
		}
		checkOf(t, what, x, "/", 0, 3, nil, api.ErrPath)
	}
}

// noDirs are no paths.
func noDirs() []string {
	return []string{"/", "//", "/a", "a/", "a//b", ".", "..", "a/.", "a/..", "../a", "\x00", "a\x00", "a/\x00b", strings.Repeat("n", 31), path100 + "d", strings.Repeat("a/", 50) + "a", strings.Repeat("x", 1<<20)}
}

// noStores are trees of which at least one pair is no version.
func noStores(t *testing.T) map[string]*tree.Tree {
	t.Helper()
	x := laid(t, someHistory())
	at := func(p string, time int) api.Key { return api.Key{Path: p, At: time} }
	return map[string]*tree.Tree{
		"the empty key alone":    tree.New().Put(api.Pair{}),
		"of the root":            x.Put(api.Pair{Key: at("", 3), Val: "\x00"}),
		"of no path":             x.Put(api.Pair{Key: at("a/", 3), Val: "\x00"}),
		"of no path, at the end": x.Put(api.Pair{Key: at("z/", 3), Val: "\x00"}),
		"of no time":             x.Put(api.Pair{Key: at("a", -1), Val: "\x00"}),
		"of too late a time":     x.Put(api.Pair{Key: at("a", latest+1), Val: "\x00"}),
		"no value":               x.Put(api.Pair{Key: at("a", 3), Val: "x"}),
		"no value, at the end":   x.Put(api.Pair{Key: at("z", 3), Val: ""}),
	}
}

// Of a store the path is named first; both times' refusals are one error. Besides one no rows are told.
func TestRefusals(t *testing.T) {
	x := laid(t, someHistory())
	below := []int{-1, -2, -latest, -1 << 32, -1<<32 + 3, math.MinInt}
	for _, dir := range dirs() {
		for _, wrong := range below {
			for _, right := range times() {
				checkOf(t, "from below 0", x, dir, wrong, right, nil, api.ErrArg)
				checkOf(t, "to below 0", x, dir, right, wrong, nil, api.ErrArg)
			}
			for _, other := range below {
				checkOf(t, "both below 0", x, dir, wrong, other, nil, api.ErrArg)
			}
		}
	}
	for _, dir := range noDirs() {
		for _, from := range append(below, times()...) {
			for _, to := range []int{-1, 0, 2, 4, latest} {
				checkOf(t, "no path", x, dir, from, to, nil, api.ErrPath)
				checkOf(t, "no path", x, dir, to, from, nil, api.ErrPath)
			}
		}
	}
}

// Of a tree that is no store neither the path nor the times are asked about.
func TestNoStores(t *testing.T) {
	for what, x := range noStores(t) {
		for _, dir := range append(dirs(), noDirs()...) {
			for _, from := range []int{-1, 0, 2, 4} {
				for _, to := range []int{-1, 0, 2, 4, latest} {
					checkOf(t, what, x, dir, from, to, nil, api.ErrArg)
				}
			}
		}
	}
}

// everyBatch calls f with every batch of these Paths: each one laid as one of two files, gone, or left out.
func everyBatch(paths []string, f func(l []api.Change)) {
	each := func(p string) []api.Change { return []api.Change{sized(p, 1), sized(p, 2), gone(p)} }
	everyRow(paths, each, func(l []api.Change) {
		if len(l) > 0 {
			f(l)
		}
	})
}

// everyHistory calls f with every history that goes on from h by batches of these Paths at these times.
func everyHistory(t *testing.T, h []step, paths []string, times []int, f func(h []step)) {
	t.Helper()
	f(h)
	if len(times) == 0 || t.Failed() {
		return
	}
	everyBatch(paths, func(l []api.Change) {
		if !t.Failed() {
			everyHistory(t, append(slices.Clone(h), step{times[0], l}), paths, times[1:], f)
		}
	})
}

func TestEveryShortHistory(t *testing.T) {
	for _, c := range []struct {
		paths []string
		times []int
	}{
		{[]string{"a"}, []int{1, 2, 4, latest}}, {[]string{"a", "a/b"}, []int{1, 3}}, {[]string{"a!", "a/b"}, []int{2, 3}}, {[]string{"a", "a/b", "ab"}, []int{5}},
	} {
		everyHistory(t, nil, c.paths, c.times, func(h []step) {
			x := laid(t, h)
			for _, dir := range []string{"", "a"} {
				checkTold(t, x, h, dir, append([]int{0}, c.times...))
			}
		})
	}
}

// checkTold holds Of from each of these times to each, and what follows of any three, against the document's words.
func checkTold(t *testing.T, x *tree.Tree, h []step, dir string, times []int) {
	t.Helper()
	told := map[[2]int][]api.Delta{}
	for _, from := range times {
		for _, to := range times {
			checkOf(t, show(h), x, dir, from, to, between(filesAt(h, dir, from), filesAt(h, dir, to)), api.OK)
			told[[2]int{from, to}], _ = diff.Of(x, dir, from, to)
		}
	}
	for _, first := range times {
		if l := told[[2]int{first, first}]; len(l) != 0 {
			t.Errorf("P16.3: %s: Of %q between %d and itself: %s", show(h), dir, first, show(l))
		}
		for _, second := range times {
			there, back := told[[2]int{first, second}], told[[2]int{second, first}]
			if !slices.Equal(diff.Back(there), back) {
				t.Errorf("P16.3: %s: Of %q, %d, %d: %s; of the way back %s", show(h), dir, first, second, show(there), show(back))
			}
			for _, third := range times {
				then := diff.Then(there, told[[2]int{second, third}])
				checkThird(t, show(h), then, told[[2]int{first, third}])
			}
		}
	}
}

// checkThird asks for the Then of two parts, and for what is told of both ends: that has the same, but that one or the other ANOTHER may be left out.
func checkThird(t *testing.T, what string, then, ends []api.Delta) {
	t.Helper()
	at := kindsOf(ends)
	var rest []api.Delta
	for _, d := range then {
		if _, ok := at[d.Path]; ok || d.Kind != isAnother {
			rest = append(rest, d)
		}
	}
	if !slices.Equal(rest, ends) {
		t.Errorf("P16.3: %s: Then of both parts: %s; of the ends: %s", what, show(then), show(ends))
	}
}

func TestThirdTimes(t *testing.T) {
	h := someHistory()
	x := laid(t, h)
	for _, dir := range dirs() {
		checkTold(t, x, h, dir, times())
	}
	// A file that turned and turned back is another one for Then, none for the ends.
	there, _ := diff.Of(x, "b/c", 2, 4)
	again, _ := diff.Of(x, "b/c", 4, 6)
	checkThen(t, there, again, deltas("b/c~"))
	checkOf(t, "turned, and turned back", x, "b/c", 2, 6, nil, api.OK)
	// So is one that was gone, and was laid anew as it was.
	there, _ = diff.Of(x, "a!", 2, 4)
	again, _ = diff.Of(x, "a!", 4, 6)
	checkThen(t, there, again, deltas("a!~"))
	checkOf(t, "gone, and laid anew", x, "a!", 2, 6, nil, api.OK)
}

// Of any two rows of entries what follows holds, too, also of those that no store tells.
func TestWhatFollowsOfEntries(t *testing.T) {
	var rows [][]api.Entry
	everyRow(around()[:3], everyFile, func(l []api.Entry) { rows = append(rows, l) })
	for _, a := range rows {
		checkEntries(t, a, a, nil)
		for _, b := range rows {
			there, back := diff.Entries(a, b), diff.Entries(b, a)
			checkBack(t, there, back)
			for _, c := range rows {
				checkThird(t, "entries", diff.Then(there, diff.Entries(b, c)), diff.Entries(a, c))
			}
		}
	}
}

// roomy is l with room behind the last one, and behind each last Chunk, which is nobody's to write to.
func roomy(l []api.Entry) []api.Entry {
	room := append(slices.Clone(l), files("room1 room2 room3")...)
	for i := range room {
		n := len(room[i].Meta.Chunks)
		room[i].Meta.Chunks = append(slices.Clone(room[i].Meta.Chunks), 11, 12, 13)[:n]
	}
	return room[:len(l)]
}

// withRoom is l up to the end of its room, and of that of its Chunks, on memory of its own.
func withRoom(l []api.Entry) []api.Entry {
	l = slices.Clone(l[:cap(l)])
	for i, f := range l {
		l[i].Meta.Chunks = slices.Clone(f.Meta.Chunks[:cap(f.Meta.Chunks)])
	}
	return l
}

func sameFile(a, b api.Entry) bool { return fmt.Sprint(a) == fmt.Sprint(b) }

func roomyDeltas(l []api.Delta) []api.Delta {
	return append(slices.Clone(l), deltas("room+ room~")...)[:len(l)]
}

// overwrite goes up to the end of the room behind the last one.
func overwrite(l []api.Delta) {
	l = l[:cap(l)]
	for i := range l {
		l[i] = delta("overwritten", 77)
	}
}

// someFiles rise, or do not.
func someFiles() [][]api.Entry {
	return [][]api.Entry{
		nil, files("a1"), files("a1 b1 c1"), files("a2 b1 d1"), {file("a", 1, metaOf(1, 2, 3, 4, 5)), file("b", 3, metaOf(1, 2, 3))}, {file("a", 2, metaOf(1, 2, 3, 4, 6)), file("b", 4, metaOf(1, 2, 3))}, files("c1 a1 b1 a1"),
	}
}

func someDeltas() [][]api.Delta {
	return [][]api.Delta{nil, deltas("a+"), deltas("a-"), deltas("a~ b- c+"), deltas("a- c- d~"), deltas("c+ a~ b- a-"), {delta("a", 0), delta("b", 4), delta("c", -1)}}
}

func TestRowsThatCameInAreAsTheyWere(t *testing.T) {
	for _, a := range someFiles() {
		for _, b := range someFiles() {
			x, y := roomy(a), roomy(b)
			was, is := withRoom(x), withRoom(y)
			overwrite(diff.Entries(x, y))
			overwrite(diff.Entries(x, x))
			if !slices.EqualFunc(withRoom(x), was, sameFile) || !slices.EqualFunc(withRoom(y), is, sameFile) {
				t.Errorf("R2: Entries of %s and %s: now they are %s and %s", show(was), show(is), show(withRoom(x)), show(withRoom(y)))
			}
		}
	}
	for _, a := range someDeltas() {
		for _, b := range someDeltas() {
			x, y := roomyDeltas(a), roomyDeltas(b)
			was, is := slices.Clone(x[:cap(x)]), slices.Clone(y[:cap(y)])
			overwrite(diff.Then(x, y))
			overwrite(diff.Then(x, x))
			overwrite(diff.Back(x))
			if !slices.Equal(x[:cap(x)], was) || !slices.Equal(y[:cap(y)], is) {
				t.Errorf("R2: Then and Back of %s and %s: now they are %s and %s", show(was), show(is), show(x[:cap(x)]), show(y[:cap(y)]))
			}
		}
	}
}

// everyAnswer is what each call tells, of some rows that came in and of a tree.
func everyAnswer(x *tree.Tree, a, b []api.Entry, c, d []api.Delta) [][]api.Delta {
	l := [][]api.Delta{diff.Entries(a, b), diff.Entries(b, a), diff.Entries(a, a), diff.Back(c), diff.Back(d), diff.Then(c, d), diff.Then(d, c), diff.Then(c, nil), diff.Then(nil, d), diff.Then(c, c)}
	for _, dir := range dirs() {
		for _, z := range [][2]int{{0, 2}, {2, 4}, {4, 2}, {2, 6}, {6, 2}, {3, latest}, {-1, 3}} {
			told, _ := diff.Of(x, dir, z[0], z[1])
			l = append(l, told)
		}
	}
	return l
}

// What is told stands on its own: written over, it changes neither another answer nor what is told later.
func TestAnswersPlayNoPartInLaterCalls(t *testing.T) {
	x := laid(t, someHistory())
	pairs := x.All()
	for i, a := range someFiles() {
		for k, b := range someFiles() {
			c, d := someDeltas()[i], someDeltas()[k]
			told := append(everyAnswer(x, a, b, c, d), everyAnswer(x, a, b, c, d)...)
			var was [][]api.Delta
			for _, l := range told {
				was = append(was, slices.Clone(l))
			}
			for n, l := range told {
				if !slices.Equal(l, was[n]) {
					t.Fatalf("R2: an answer changed with another: %s; want %s", show(l), show(was[n]))
				}
				overwrite(l)
			}
			for n, l := range everyAnswer(x, a, b, c, d) {
				if !slices.Equal(l, was[n]) {
					t.Fatalf("R2: behind answers that were written over: %s; want %s", show(l), show(was[n]))
				}
			}
		}
	}
	if !slices.Equal(x.All(), pairs) {
		t.Errorf("R2: the tree was %s; now it is %s", show(pairs), show(x.All()))
	}
}

// Neither are the rows kept that came in: they may be written over.
func TestRowsThatCameInPlayNoPartInLaterCalls(t *testing.T) {
	for _, a := range someDeltas() {
		for _, b := range someDeltas() {
			x, y := slices.Clone(a), slices.Clone(b)
			told := [][]api.Delta{diff.Back(x), diff.Then(x, y), diff.Then(x, nil), diff.Then(nil, y)}
			overwrite(x)
			overwrite(y)
			for i, want := range [][]api.Delta{diff.Back(a), diff.Then(a, b), diff.Then(a, nil), diff.Then(nil, b)} {
				if !slices.Equal(told[i], want) {
					t.Errorf("R2: of %s and %s was told %s; behind them it is %s", show(a), show(b), show(want), show(told[i]))
				}
			}
		}
	}
}

func TestTheTreeThatCameInIsAsItWas(t *testing.T) {
	trees := noStores(t)
	trees["a store"] = laid(t, someHistory())
	for what, x := range trees {
		was := x.All()
		for _, dir := range append(dirs(), "/") {
			for _, from := range []int{-1, 0, 2, 4, latest} {
				l, _ := diff.Of(x, dir, from, 6)
				overwrite(l)
			}
		}
		if !slices.Equal(x.All(), was) {
			t.Errorf("R2: %s: the tree was %s; now it is %s", what, show(was), show(x.All()))
		}
	}
}

// names are the Paths of which the fuzz tests choose by a byte.
func names() []string {
	return []string{"", "a", "a!", "a-", "a/", "a/b", "a/b/c", "a0", "ab", "b", "\xff"}
}

func rises[T any](l []T, path func(x T) string) bool {
	for i := 1; i < len(l); i++ {
		if path(l[i-1]) >= path(l[i]) {
			return false
		}
	}
	return true
}

// FuzzRows makes rows of entries and of deltas: of each one two bytes, its Path and what it is.
func FuzzRows(f *testing.F) {
	f.Add([]byte{}, []byte{})
	f.Add([]byte{1, 1, 5, 2, 8, 3}, []byte{1, 2, 2, 1, 5, 2})
	f.Add([]byte{8, 1, 5, 2, 1, 3}, []byte{1, 2, 1, 1, 5, 0})
	f.Fuzz(func(t *testing.T, s, r []byte) {
		var row [2][]api.Entry
		var turn [2][]api.Delta
		for i, l := range [][]byte{s, r} {
			for ; len(l) >= 2; l = l[2:] {
				p := names()[int(l[0])%len(names())]
				row[i] = append(row[i], file(p, i, metaOf(int(l[1])%3, 0)))
				turn[i] = append(turn[i], delta(p, int(l[1])%6-1))
			}
		}
		path := func(f api.Entry) string { return f.Path }
		noKind := func(d api.Delta) bool { return d.Kind < isNew || d.Kind > isGone }
		told, then, back := diff.Entries(row[0], row[1]), diff.Then(turn[0], turn[1]), diff.Back(turn[0])
		if !rises(row[0], path) || !rises(row[1], path) {
			return
		}
		if want := between(metasOf(row[0]), metasOf(row[1])); !slices.Equal(told, want) {
			t.Errorf("P16.1: Entries of %s and %s: %s; want %s", show(row[0]), show(row[1]), show(told), show(want))
		}
		if slices.ContainsFunc(turn[0], noKind) || slices.ContainsFunc(turn[1], noKind) {
			return
		}
		if !slices.Equal(then, joined(turn[0], turn[1])) || !slices.Equal(back, turned(turn[0])) {
			t.Errorf("P16.2: of %s and %s: Then %s, Back %s", show(turn[0]), show(turn[1]), show(then), show(back))
		}
	})
}

// FuzzOf makes a history of batches of one change each: a byte of how much later it is, one of its Path, and one of what it is.
func FuzzOf(f *testing.F) {
	f.Add([]byte{}, "", 0, 0)
	f.Add([]byte{0, 1, 1, 1, 5, 2, 0, 1, 0, 2, 5, 1}, "a", 1, 4)
	f.Add([]byte{3, 8, 1, 0, 8, 2, 0, 8, 0, 1, 9, 1}, "", 9, 5)
	f.Add([]byte{3, 8, 1}, "a/", -1, 5)
	f.Fuzz(func(t *testing.T, l []byte, dir string, from, to int) {
		var h []step
		at := 0
		for l = l[:min(len(l), 300)]; len(l) >= 3; l = l[3:] {
			at += 1 + int(l[0])
			c := sized(names()[int(l[1])%len(names())], int(l[2])%3)
			if l[2]%3 == 0 {
				c = gone(c.Path)
			}
			if c.Path != "" && c.Path != "a/" {
				h = append(h, step{at, []api.Change{c}})
			}
		}
		x := laid(t, h)
		checkTold(t, x, h, "a", []int{0, 1, at / 2, at})
		for _, dir := range append(names(), dir) {
			_, e := store.List(x, dir, min(from, to))
			var want []api.Delta
			if e == api.OK {
				want = between(filesAt(h, dir, from), filesAt(h, dir, to))
			}
			checkOf(t, show(h), x, dir, from, to, want, e)
		}
	})
}
