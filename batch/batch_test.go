package batch_test

import (
	"encoding/binary"
	"fmt"
	"math"
	"slices"
	"strings"
	"testing"

	"sexton/api"
	"sexton/batch"
)

const (
	mostChanges = 20
	mostSize    = 1000000000
	mostMode    = 4095
	mostChunks  = 16
	mostNumber  = 4294967295
)

var (
	name30 = strings.Repeat("n", 30)
	name31 = strings.Repeat("n", 31)
	// path100 and path101 differ in their last name alone.
	path100 = strings.Join([]string{name30, name30, name30, "1234567"}, "/")
	path101 = strings.Join([]string{name30, name30, name30, "12345678"}, "/")
	// deep100 has as many names as a path can have, and as many bytes.
	deep100 = strings.Repeat("a/", 49) + "bc"
)

func sized(p string, n int) api.Change { return api.Change{Path: p, Meta: api.Meta{Size: n}} }

func gone(p string) api.Change { return api.Change{Path: p, Gone: true} }

func full(p string, size, mode int, chunks ...int) api.Change {
	return api.Change{Path: p, Meta: api.Meta{Size: size, Mode: mode, Chunks: chunks}}
}

func row(l ...api.Change) []api.Change { return l }

// unlike is n changes whose Paths rise, every third one gone.
func unlike(n int) []api.Change {
	var l []api.Change
	for i := range n {
		p := fmt.Sprintf("f%05d", i)
		switch i % 3 {
		case 0:
			l = append(l, full(p, i, 7, i, mostNumber))
		case 1:
			l = append(l, gone(p))
		default:
			l = append(l, sized(p, i))
		}
	}
	return l
}

func backwards[T any](l []T) []T {
	l = slices.Clone(l)
	slices.Reverse(l)
	return l
}

// known are batches whose bytes are written out by hand: no call of the program made them.
var known = []struct {
	l     []api.Change
	bytes string
}{
	{row(gone("a")), "\x01\x02\x01\x01a\x01\x01\x00"},
	{row(sized("a", 0)), "\x01\x02\x01\x01a\x01\x04\x01\x00\x00\x00"},
	{row(full("a", 300, 7, 5)), "\x01\x02\x01\x01a\x01\x0a\x01\x02\x01\x2c\x01\x07\x01\x01\x01\x05"},
	{row(gone("a"), full("b", 3, 0, 7)), "\x01\x04\x01\x01a\x01\x01\x00\x01\x01b\x01\x08\x01\x01\x03\x00\x01\x01\x01\x07"},
	{row(sized("a", 1), sized("b", 2)), "\x01\x04\x01\x01a\x01\x05\x01\x01\x01\x00\x00\x01\x01b\x01\x05\x01\x01\x02\x00\x00"},
	{row(sized("a", 1), sized("a/b", 2), gone("a0")), "\x01\x06\x01\x01a\x01\x05\x01\x01\x01\x00\x00\x01\x03a/b\x01\x05\x01\x01\x02\x00\x00\x01\x02a0\x01\x01\x00"},
	{row(gone("..."), gone("\xff")), "\x01\x04\x01\x03...\x01\x01\x00\x01\x01\xff\x01\x01\x00"},
	{row(gone(path100)), "\x01\x02\x01\x64" + path100 + "\x01\x01\x00"},
	{row(full("é", mostSize, mostMode, slices.Repeat([]int{mostNumber}, 16)...)), "\x01\x02\x01\x02é\x01\x5b\x01\x04\x3b\x9a\xca\x00\x02\x0f\xff\x01\x10" + strings.Repeat("\x04\xff\xff\xff\xff", 16)},
	{twentyGone, "\x01\x28" + twentyBytes},
}

var twentyGone = func() (l []api.Change) {
	for _, p := range strings.Split("abcdefghijklmnopqrst", "") {
		l = append(l, gone(p))
	}
	return l
}()

const twentyBytes = "\x01\x01a\x01\x01\x00\x01\x01b\x01\x01\x00\x01\x01c\x01\x01\x00\x01\x01d\x01\x01\x00\x01\x01e\x01\x01\x00" +
	"\x01\x01f\x01\x01\x00\x01\x01g\x01\x01\x00\x01\x01h\x01\x01\x00\x01\x01i\x01\x01\x00\x01\x01j\x01\x01\x00" +
	"\x01\x01k\x01\x01\x00\x01\x01l\x01\x01\x00\x01\x01m\x01\x01\x00\x01\x01n\x01\x01\x00\x01\x01o\x01\x01\x00" +
	"\x01\x01p\x01\x01\x00\x01\x01q\x01\x01\x00\x01\x01r\x01\x01\x00\x01\x01s\x01\x01\x00\x01\x01t\x01\x01\x00"

// paths may be a change's, and rise.
func paths() []string {
	return []string{
		"\x01", " ", "...", "..a", "0", "A", "a", "a\x01", "a b", "a!", "a.", "a..", "a/...", deep100, "a/b", "a/b/c", "a/bc", "a0", "aA", "aa", "ab", "ab/c", "a\x80", "a\xff",
		"b", name30, name30 + "/" + name30, path100[:99], path100, "z", "é", "\xff", "\xff\xff",
	}
}

// noPaths may not be a change's: the root, and texts that are no path.
func noPaths() []string {
	return []string{
		"", ".", "..", "/", "//", "/a", "a/", "a//b", "a/.", "a/..", "./a", "../a", "a/./b", "a/../b", "\x00", "a\x00", "\x00a", "a/b\x00c", "a\x00b/c",
		name31, "a/" + name31, name31 + "/a", path101, path100 + "/", deep100 + "d", strings.Repeat("x", 101), strings.Repeat("a/", 2000) + "a", strings.Repeat("x", 1<<20),
	}
}

// metas may be, all of them; the first one alone is zero.
func metas() []api.Meta {
	return []api.Meta{
		{}, {Size: 1}, {Size: 300, Mode: 7, Chunks: []int{5}}, {Size: mostSize - 1}, {Size: mostSize}, {Mode: 1}, {Mode: mostMode - 1}, {Mode: mostMode},
		{Chunks: []int{0}}, {Chunks: []int{1}}, {Chunks: []int{mostNumber - 1}}, {Chunks: []int{mostNumber}}, {Chunks: []int{0, mostNumber, 0}},
		{Chunks: make([]int, 15)}, {Chunks: make([]int, 16)}, {Size: mostSize, Mode: mostMode, Chunks: slices.Repeat([]int{mostNumber}, 16)},
	}
}

// noMetas may not be, none of them.
func noMetas() []api.Meta {
	l := []api.Meta{
		{Size: mostSize + 1}, {Mode: mostMode + 1}, {Size: mostNumber}, {Mode: mostSize}, {Chunks: make([]int, 17)}, {Size: 300, Mode: 7, Chunks: slices.Repeat([]int{5}, 18)}, {Chunks: make([]int, 1<<16)},
		{Size: mostSize + 1, Mode: mostMode, Chunks: []int{5}}, {Size: 300, Mode: mostMode + 1, Chunks: []int{5}}, {Size: -1, Mode: -1, Chunks: []int{-1}},
	}
	// Some wrap round to one that may be where fewer bits hold them.
	for _, n := range []int{math.MinInt, -1 << 32, -1<<32 + 5, -2, -1, mostNumber + 1, 1<<32 + 5, 1 << 40, 1 << 62, math.MaxInt} {
		l = append(l, api.Meta{Size: n}, api.Meta{Mode: n}, api.Meta{Size: 300, Mode: 7, Chunks: []int{n}})
		for i := range mostChunks {
			chunks := slices.Repeat([]int{5}, mostChunks)
			chunks[i] = n
			l = append(l, api.Meta{Chunks: chunks})
		}
	}
	return l
}

// noChanges may not be, none of them.
func noChanges() []api.Change {
	var l []api.Change
	for _, p := range noPaths() {
		l = append(l, gone(p), sized(p, 1), full(p, 300, 7, 5))
	}
	for _, m := range noMetas() {
		l = append(l, api.Change{Path: "k", Meta: m}, api.Change{Path: "k", Gone: true, Meta: m})
	}
	for _, m := range metas()[1:] {
		l = append(l, api.Change{Path: "k", Gone: true, Meta: m})
	}
	return append(l, api.Change{}, api.Change{Gone: true}, api.Change{Gone: true, Meta: api.Meta{Size: -1}})
}

// fewNoChanges are one for each reason.
func fewNoChanges() []api.Change {
	return []api.Change{
		gone(""), sized("", 1), gone("k/"), sized("k\x00", 1), sized("k", -1), sized("k", mostSize+1), full("k", 0, -1), full("k", 0, mostMode+1),
		full("k", 0, 0, 5, -1), full("k", 0, 0, mostNumber+1), full("k", 0, 0, make([]int, 17)...),
		{Path: "k", Gone: true, Meta: api.Meta{Size: 1}}, {Path: "k", Gone: true, Meta: api.Meta{Mode: 1}}, {Path: "k", Gone: true, Meta: api.Meta{Chunks: []int{0}}},
	}
}

// The document's words, told by other means than the program's.

func isPath(s string) bool {
	wrong := func(n string) bool {
		return n == "" || n == "." || n == ".." || len(n) > 30 || strings.Contains(n, "\x00")
	}
	return s == "" || len(s) <= 100 && !slices.ContainsFunc(strings.Split(s, "/"), wrong)
}

func metaMayBe(m api.Meta) bool {
	wrong := func(c int) bool { return c < 0 || c > mostNumber }
	return m.Size >= 0 && m.Size <= mostSize && m.Mode >= 0 && m.Mode <= mostMode && len(m.Chunks) <= mostChunks && !slices.ContainsFunc(m.Chunks, wrong)
}

func mayBe(c api.Change) bool {
	return c.Path != "" && isPath(c.Path) && metaMayBe(c.Meta) && !(c.Gone && !sameMeta(c.Meta, api.Meta{}))
}

func mayNotBe(c api.Change) bool { return !mayBe(c) }

func pathsOf(l []api.Change) []string {
	var paths []string
	for _, c := range l {
		paths = append(paths, c.Path)
	}
	return paths
}

func isBatch(l []api.Change) bool {
	paths := pathsOf(l)
	return len(l) > 0 && len(l) <= mostChanges && !slices.ContainsFunc(l, mayNotBe) &&
		slices.IsSorted(paths) && len(slices.Compact(paths)) == len(l)
}

// normOf takes of l what has no change of the same Path behind it.
func normOf(l []api.Change) ([]api.Change, api.Errno) {
	var norm []api.Change
	for i, c := range l {
		if mayNotBe(c) {
			return nil, api.ErrArg
		}
		if !slices.ContainsFunc(l[i+1:], func(d api.Change) bool { return d.Path == c.Path }) {
			norm = append(norm, c)
		}
	}
	slices.SortFunc(norm, func(a, b api.Change) int { return strings.Compare(a.Path, b.Path) })
	if len(norm) == 0 || len(norm) > mostChanges {
		return nil, api.ErrArg
	}
	return norm, api.OK
}

// numbersBytes is numbers' bytes by the library's means.
func numbersBytes(l ...int) string {
	s := ""
	for _, n := range l {
		digits := strings.TrimLeft(string(binary.BigEndian.AppendUint32(nil, uint32(n))), "\x00")
		s += string([]byte{byte(len(digits))}) + digits
	}
	return s
}

func rowBytes(l ...string) string {
	s := numbersBytes(len(l))
	for _, x := range l {
		s += numbersBytes(len(x)) + x
	}
	return s
}

func valueBytes(m api.Meta) string {
	return "\x01" + numbersBytes(append([]int{m.Size, m.Mode, len(m.Chunks)}, m.Chunks...)...)
}

// textsOf is the texts of a batch's row, of changes that need not be a batch.
func textsOf(l ...api.Change) []string {
	var texts []string
	for _, c := range l {
		value := "\x00"
		if !c.Gone {
			value = valueBytes(c.Meta)
		}
		texts = append(texts, c.Path, value)
	}
	return texts
}

func bytesOf(l ...api.Change) string { return rowBytes(textsOf(l...)...) }

// cut takes a number from the beginning of s, in any form.
func cut(s string) (n int, rest string, ok bool) {
	if s == "" || s[0] > 4 || len(s) < 1+int(s[0]) {
		return 0, "", false
	}
	end := 1 + int(s[0])
	four := append(make([]byte, 5-end), s[1:end]...)
	return int(binary.BigEndian.Uint32(four)), s[end:], true
}

// metaIn is a meta that s may be the bytes of, whatever the form of its numbers and whatever stands behind.
func metaIn(s string) api.Meta {
	var l []int
	for n, rest, ok := cut(s); ok; n, rest, ok = cut(rest) {
		l = append(l, n)
	}
	if len(l) < 3 {
		return api.Meta{}
	}
	return api.Meta{Size: l[0], Mode: l[1], Chunks: l[3:]}
}

// batchOf is the batch whose bytes s is; false, if there is none. It reads whatever forms there are, and asks then whether s is what that has.
func batchOf(s string) ([]api.Change, bool) {
	var l []api.Change
	_, rest, ok := cut(s)
	for ok && rest != "" {
		var texts [2]string
		for i := range texts {
			n, behind, there := cut(rest)
			if !there || n > len(behind) {
				return nil, false
			}
			texts[i], rest = behind[:n], behind[n:]
		}
		c := api.Change{Path: texts[0], Gone: texts[1] == "\x00"}
		if !c.Gone && texts[1] != "" {
			c.Meta = metaIn(texts[1][1:])
		}
		l = append(l, c)
	}
	if !isBatch(l) || bytesOf(l...) != s {
		return nil, false
	}
	return l, true
}

// sameMeta takes no Chunks for the same, nil or not.
func sameMeta(a, b api.Meta) bool {
	return a.Size == b.Size && a.Mode == b.Mode && slices.Equal(a.Chunks, b.Chunks)
}

func sameChange(a, b api.Change) bool {
	return a.Path == b.Path && a.Gone == b.Gone && sameMeta(a.Meta, b.Meta)
}

func same(a, b []api.Change) bool { return slices.EqualFunc(a, b, sameChange) }

// clone is l on memory of its own.
func clone(l []api.Change) []api.Change {
	l = slices.Clone(l)
	for i := range l {
		l[i].Meta.Chunks = slices.Clone(l[i].Meta.Chunks)
	}
	return l
}

// everyRow calls f with every row of at most so many of these, once each.
func everyRow[T any](of []T, most int, f func(l []T)) {
	f(nil)
	if most == 0 {
		return
	}
	for _, x := range of {
		everyRow(of, most-1, func(l []T) { f(append(slices.Clone(l), x)) })
	}
}

// everyText calls f with every text of at most so many of these letters, once each.
func everyText(letters string, most int, f func(s string)) {
	everyRow(strings.Split(letters, ""), most, func(l []string) { f(strings.Join(l, "")) })
}

// short and brief cut what is long so that a failure can be read.
func short(s string) string {
	if len(s) > 60 {
		return s[:60] + ".."
	}
	return s
}

func brief(l []api.Change) []api.Change {
	l = slices.Clone(l[:min(len(l), 6)])
	for i, c := range l {
		l[i].Path = fmt.Sprintf("%q", short(c.Path))
		l[i].Meta.Chunks = c.Meta.Chunks[:min(len(c.Meta.Chunks), 3)]
	}
	return l
}

func checkIs(t *testing.T, l []api.Change, want bool) {
	t.Helper()
	if batch.Is(l) != want {
		t.Errorf("P14.1: Is(%+v), %d changes: %v", brief(l), len(l), !want)
	}
}

func checkNorm(t *testing.T, promise string, l, want []api.Change, wantErr api.Errno) {
	t.Helper()
	if norm, e := batch.Norm(l); !same(norm, want) || e != wantErr {
		t.Errorf("%s: Norm(%+v), %d changes: %+v, %d; want %+v, %d", promise, brief(l), len(l), brief(norm), e, brief(want), wantErr)
	}
}

func checkNoNorm(t *testing.T, l []api.Change) {
	t.Helper()
	checkNorm(t, "P14.1", l, nil, api.ErrArg)
}

func checkJoin(t *testing.T, a, b, want []api.Change, wantErr api.Errno) {
	t.Helper()
	if l, e := batch.Join(a, b); !same(l, want) || e != wantErr {
		t.Errorf("P14.1: Join(%+v, %+v), %d and %d changes: %+v, %d; want %+v, %d", brief(a), brief(b), len(a), len(b), brief(l), e, brief(want), wantErr)
	}
}

func checkPut(t *testing.T, l []api.Change, want string, wantErr api.Errno) {
	t.Helper()
	if s, e := batch.Put(l); s != want || e != wantErr {
		t.Errorf("P14.2: Put(%+v), %d changes: %q, %d; want %q, %d", brief(l), len(l), short(s), e, short(want), wantErr)
	}
}

func checkGet(t *testing.T, s string, want []api.Change, wantErr api.Errno) {
	t.Helper()
	if l, e := batch.Get(s); !same(l, want) || e != wantErr {
		t.Errorf("P14.2: Get(%q), %d bytes: %+v, %d; want %+v, %d", short(s), len(s), brief(l), e, brief(want), wantErr)
	}
}

func checkNoBytes(t *testing.T, s string) {
	t.Helper()
	checkGet(t, s, nil, api.ErrFrame)
}

// checkBatch holds every call against a batch and its bytes.
func checkBatch(t *testing.T, l []api.Change, bytes string) {
	t.Helper()
	checkIs(t, l, true)
	checkNorm(t, "P14.3", l, l, api.OK)
	checkPut(t, l, bytes, api.OK)
	checkGet(t, bytes, l, api.OK)
}

// checkNoBatch holds the calls that ask for a batch against what is none.
func checkNoBatch(t *testing.T, l []api.Change) {
	t.Helper()
	checkIs(t, l, false)
	checkPut(t, l, "", api.ErrArg)
}

// checkChanges holds every call that takes changes against the document's words.
func checkChanges(t *testing.T, l []api.Change) {
	t.Helper()
	if isBatch(l) {
		checkBatch(t, l, bytesOf(l...))
	} else {
		checkNoBatch(t, l)
	}
	want, e := normOf(l)
	checkNorm(t, "P14.1", l, want, e)
	if e == api.OK {
		checkBatch(t, want, bytesOf(want...))
	}
}

// checkText holds Get against what batchOf finds, and lays what is got.
func checkText(t *testing.T, s string) {
	t.Helper()
	l, ok := batchOf(s)
	if !ok {
		checkNoBytes(t, s)
	} else {
		checkBatch(t, l, s)
	}
	if got, e := batch.Get(s); e == api.OK {
		if put, f := batch.Put(got); put != s || f != api.OK || !batch.Is(got) {
			t.Errorf("P14.3: of %q was got: %+v; put: %q, %d", short(s), brief(got), short(put), f)
		}
	}
}

func TestKnownBatches(t *testing.T) {
	for _, x := range known {
		checkBatch(t, x.l, x.bytes)
		checkChanges(t, x.l)
		checkText(t, x.bytes)
	}
}

func TestKnownNorms(t *testing.T) {
	for _, x := range []struct{ l, want []api.Change }{
		{row(gone("b"), sized("a", 1), sized("b", 2)), row(sized("a", 1), sized("b", 2))},
		{row(sized("a", 1)), row(sized("a", 1))},
		{row(gone("a")), row(gone("a"))},
		{row(sized("b", 2), sized("a", 1)), row(sized("a", 1), sized("b", 2))},
		{row(sized("c", 3), gone("b"), sized("a", 1)), row(sized("a", 1), gone("b"), sized("c", 3))},
		{row(sized("a", 1), sized("a", 2)), row(sized("a", 2))},
		{row(sized("a", 2), sized("a", 1)), row(sized("a", 1))},
		{row(gone("a"), sized("a", 1)), row(sized("a", 1))},
		{row(sized("a", 1), gone("a")), row(gone("a"))},
		{row(gone("a"), gone("a")), row(gone("a"))},
		{row(gone("a"), sized("a", 1), sized("a", 2)), row(sized("a", 2))},
		{row(sized("a", 1), gone("a"), sized("a", 2)), row(sized("a", 2))},
		{row(sized("a", 1), sized("a", 2), gone("a")), row(gone("a"))},
		{row(full("a", 300, 7, 5), sized("a", 1), full("a", 300, 7, 6)), row(full("a", 300, 7, 6))},
		{row(full("a", 300, 7, 5), full("a", 300, 8)), row(full("a", 300, 8))},
		{row(sized("b", 1), sized("a", 1), gone("b"), gone("a"), sized("b", 2)), row(gone("a"), sized("b", 2))},
		{row(sized("ab", 1), sized("a/b", 2), sized("a", 3), sized("a!", 4), sized("a0", 5)), row(sized("a", 3), sized("a!", 4), sized("a/b", 2), sized("a0", 5), sized("ab", 1))},
		{row(sized("b", 1), sized("B", 2), sized("é", 3), sized("\xff", 4), sized("z", 5)), row(sized("B", 2), sized("b", 1), sized("z", 5), sized("é", 3), sized("\xff", 4))},
	} {
		checkNorm(t, "P14.1", x.l, x.want, api.OK)
		checkIs(t, x.want, true)
	}
	for _, l := range [][]api.Change{nil, {}, row(gone("")), row(sized("", 1)), row(sized("a", 1), gone("")), row(sized("", 1), sized("a", 1))} {
		checkNoNorm(t, l)
		checkNoBatch(t, l)
	}
}

func TestHowManyChanges(t *testing.T) {
	for n := range 45 {
		l := unlike(n)
		for _, given := range [][]api.Change{l, backwards(l), slices.Concat(l[n/2:], l[:n/2])} {
			if n >= 1 && n <= mostChanges {
				checkNorm(t, "P14.1", given, l, api.OK)
			} else {
				checkNoNorm(t, given)
			}
		}
		if n >= 1 && n <= mostChanges {
			checkBatch(t, l, bytesOf(l...))
		} else {
			checkNoBatch(t, l)
			checkNoBytes(t, bytesOf(l...))
		}
	}
	for _, n := range []int{256, 257, 276, 500, 501, 65537} {
		l := unlike(n)
		checkNoBatch(t, l)
		checkNoNorm(t, l)
	}
}

func TestMoreThan20OfFewPaths(t *testing.T) {
	for n := 1; n <= 22; n++ {
		// So often that there are more than 20 changes, the last of each Path gone or not.
		var l []api.Change
		for i := range 64 {
			l = append(l, sized(fmt.Sprintf("f%05d", (i*7)%n), i))
		}
		l = append(l, unlike(n)...)
		checkNoBatch(t, l)
		if n <= mostChanges {
			checkNorm(t, "P14.1", l, unlike(n), api.OK)
			checkNorm(t, "P14.1", append(l, backwards(unlike(n))...), unlike(n), api.OK)
		} else {
			checkNoNorm(t, l)
		}
	}
	// One Path alone, each length of it and each of a batch's, and one of a batch's Paths a second time.
	long := slices.Repeat(row(sized("a", 1), gone("a")), 5000)
	checkNorm(t, "P14.1", long, row(gone("a")), api.OK)
	checkNoBatch(t, long)
	for i := range mostChanges {
		twenty := unlike(mostChanges)
		again := sized(twenty[i].Path, 12345)
		l := append(slices.Clone(twenty), again)
		checkNoBatch(t, l)
		want := slices.Clone(twenty)
		want[i] = again
		checkNorm(t, "P14.1", l, want, api.OK)
		checkNorm(t, "P14.1", append(row(again), twenty...), twenty, api.OK)
		// A Path of its own is one too many, at each place.
		own := sized(twenty[i].Path+"x", 1)
		checkNoNorm(t, slices.Insert(slices.Clone(twenty), i, own))
		checkNoNorm(t, slices.Insert(slices.Clone(twenty), i+1, own))
		checkNoBatch(t, slices.Insert(slices.Clone(twenty), i+1, own))
	}
}

func TestOrderOfPaths(t *testing.T) {
	l := paths()
	for i, p := range l {
		for k, q := range l {
			a, b := sized(p, 1), full(q, 2, 7, 5)
			both := row(a, b)
			switch {
			case i < k:
				checkBatch(t, both, bytesOf(both...))
				checkNorm(t, "P14.1", row(b, a), both, api.OK)
			case i == k:
				checkNoBatch(t, both)
				checkNoBytes(t, bytesOf(both...))
				checkNorm(t, "P14.1", both, row(b), api.OK)
			default:
				checkNoBatch(t, both)
				checkNoBytes(t, bytesOf(both...))
			}
		}
	}
}

// In a batch two neighbours are turned, or made the same: at each place of each length.
func TestOneWrongNeighbour(t *testing.T) {
	for n := 2; n <= mostChanges; n++ {
		good := unlike(n)
		for i := 1; i < n; i++ {
			turned := slices.Clone(good)
			turned[i-1], turned[i] = turned[i], turned[i-1]
			checkNoBatch(t, turned)
			checkNoBytes(t, bytesOf(turned...))
			checkNorm(t, "P14.1", turned, good, api.OK)
			twice := slices.Clone(good)
			twice[i].Path = twice[i-1].Path
			checkNoBatch(t, twice)
			checkNoBytes(t, bytesOf(twice...))
			checkNorm(t, "P14.1", twice, slices.Delete(slices.Clone(twice), i-1, i), api.OK)
		}
	}
}

func TestEdgesOfAPath(t *testing.T) {
	for _, p := range paths() {
		for _, c := range []api.Change{gone(p), sized(p, 1)} {
			checkBatch(t, row(c), bytesOf(c))
		}
	}
	for _, p := range noPaths() {
		for _, c := range []api.Change{gone(p), sized(p, 1)} {
			checkNoBatch(t, row(c))
			checkNoNorm(t, row(c))
			checkNoBytes(t, bytesOf(c))
		}
	}
}

func TestEdgesOfAMeta(t *testing.T) {
	for _, m := range metas() {
		c := api.Change{Path: "a", Meta: m}
		checkBatch(t, row(c), bytesOf(c))
	}
	for _, m := range noMetas() {
		c := api.Change{Path: "a", Meta: m}
		checkNoBatch(t, row(c))
		checkNoNorm(t, row(c))
	}
}

func TestGone(t *testing.T) {
	for _, p := range paths() {
		checkBatch(t, row(gone(p)), rowBytes(p, "\x00"))
	}
	for _, m := range slices.Concat(metas()[1:], noMetas()) {
		c := api.Change{Path: "a", Gone: true, Meta: m}
		checkNoBatch(t, row(c))
		checkNoNorm(t, row(c))
		checkJoin(t, row(c), row(sized("a", 1)), nil, api.ErrArg)
	}
	// A row of no Chunks that is not nil is zero, too.
	c := api.Change{Path: "a", Gone: true, Meta: api.Meta{Chunks: []int{}}}
	checkBatch(t, row(c), rowBytes("a", "\x00"))
}

func TestAChangeThatMayNotBe(t *testing.T) {
	for _, wrong := range noChanges() {
		checkNoBatch(t, row(wrong))
		checkNoNorm(t, row(wrong))
		checkJoin(t, row(wrong), nil, nil, api.ErrArg)
		checkJoin(t, nil, row(wrong), nil, api.ErrArg)
	}
	for _, wrong := range fewNoChanges() {
		for n := range 22 {
			good := unlike(n)
			for i := range n + 1 {
				l := slices.Insert(slices.Clone(good), i, wrong)
				checkNoBatch(t, l)
				checkNoNorm(t, l)
				checkJoin(t, l[:i], l[i:], nil, api.ErrArg)
				checkJoin(t, l[:i+1], l[i+1:], nil, api.ErrArg)
				// A later one of the same Path may be, and is the last one of it: the wrong one is refused all the same.
				checkNoNorm(t, append(l, sized("k", 1)))
				checkNoNorm(t, append(l, gone("k"), sized("k", 1), gone("a")))
				checkNoNorm(t, append(row(sized("k", 1)), l...))
			}
		}
	}
}

// Among many of few Paths, too: as the first one, the last one and some between.
func TestAChangeThatMayNotBeAmongMany(t *testing.T) {
	many := slices.Repeat(unlike(5), 20)
	ofOneOfThem := row(sized("f00003", -1), api.Change{Path: "f00003", Gone: true, Meta: api.Meta{Mode: 1}})
	for _, wrong := range append(fewNoChanges(), ofOneOfThem...) {
		for _, i := range []int{0, 1, 19, 20, 21, 50, 99, 100} {
			checkNoNorm(t, slices.Insert(slices.Clone(many), i, wrong))
		}
	}
}

// All short rows of changes: of Paths that are the same and that are not, gone and not, and of such as may not be.
func TestAllShortRows(t *testing.T) {
	of := []api.Change{sized("a", 1), gone("a"), full("a", 300, 7, 5), sized("b", 1), gone("b"), sized("a/b", 2), gone("a0"), sized("", 1), {Path: "b", Gone: true, Meta: api.Meta{Mode: 1}}}
	everyRow(of, 4, func(l []api.Change) {
		if !t.Failed() {
			checkChanges(t, l)
		}
	})
	everyRow(of[:7], 5, func(l []api.Change) {
		if !t.Failed() {
			checkChanges(t, l)
		}
	})
}

func TestKnownJoins(t *testing.T) {
	a1, a2, b1, b2, c1 := sized("a", 1), sized("a", 2), sized("b", 1), gone("b"), full("c", 1, 7, 5)
	for _, x := range []struct{ a, b, want []api.Change }{
		{row(a1, b1), row(gone("a"), c1), row(gone("a"), b1, c1)},
		{row(a1), nil, row(a1)},
		{nil, row(a1), row(a1)},
		{row(a1, b2), row(), row(a1, b2)},
		{row(a1), row(b1), row(a1, b1)},
		{row(b1), row(a1), row(a1, b1)},
		{row(a1, c1), row(b1), row(a1, b1, c1)},
		{row(b1), row(a1, c1), row(a1, b1, c1)},
		{row(a1), row(a2), row(a2)},
		{row(a2), row(a1), row(a1)},
		{row(a1, b1), row(a2, b2), row(a2, b2)},
		{row(a2, b2), row(a1, b1), row(a1, b1)},
		{row(a1, b1), row(b2), row(a1, b2)},
		{row(b2), row(a1, b1), row(a1, b1)},
		{row(a1, b1, c1), row(b2), row(a1, b2, c1)},
		// Neither need be a batch.
		{row(b1, a1), row(b2, a2, b1), row(a2, b1)},
		{row(a1, gone("a")), row(c1, a2, a1), row(a1, c1)},
	} {
		checkJoin(t, x.a, x.b, x.want, api.OK)
	}
	for _, x := range [][2][]api.Change{{nil, nil}, {row(), row()}, {row(a1), row(gone(""))}, {row(gone("")), row(a1)}, {row(sized("a", -1)), row(a1)}, {row(a1), row(sized("a", -1))}} {
		checkJoin(t, x[0], x[1], nil, api.ErrArg)
	}
}

func TestAllJoinsOfShortRows(t *testing.T) {
	of := []api.Change{sized("a", 1), gone("a"), sized("b", 2), gone("c"), sized("c", -1)}
	everyRow(of, 3, func(a []api.Change) {
		everyRow(of, 3, func(b []api.Change) {
			if !t.Failed() {
				want, e := normOf(slices.Concat(a, b))
				checkJoin(t, a, b, want, e)
			}
		})
	})
}

func TestJoinsOf20And21(t *testing.T) {
	for n := range 42 {
		all := unlike(n)
		for i := range n + 1 {
			want, e := all, api.OK
			if n < 1 || n > mostChanges {
				want, e = nil, api.ErrArg
			}
			checkJoin(t, all[:i], all[i:], want, e)
			checkJoin(t, all[i:], all[:i], want, e)
			checkJoin(t, backwards(all[:i]), backwards(all[i:]), want, e)
		}
	}
	// Two of 20 with all Paths in common, and with all but some.
	for common := range mostChanges + 1 {
		all := unlike(2*mostChanges - common)
		a, b := all[:mostChanges], clone(all[mostChanges-common:])
		for i := range b {
			b[i].Gone, b[i].Meta = false, api.Meta{Size: 1000 + i}
		}
		if common == mostChanges {
			checkJoin(t, a, b, b, api.OK)
			checkJoin(t, b, a, a, api.OK)
		} else {
			checkJoin(t, a, b, nil, api.ErrArg)
			checkJoin(t, b, a, nil, api.ErrArg)
		}
		// And with so many of b that there are 20 together.
		checkJoin(t, a, b[:common], slices.Concat(a[:mostChanges-common], b[:common]), api.OK)
		checkJoin(t, b[:common], a, a, api.OK)
	}
}

func TestGetOfNoText(t *testing.T) {
	checkNoBytes(t, "")
	// A row of no texts.
	checkNoBytes(t, "\x00")
	checkNoBytes(t, rowBytes())
}

func TestGetOfCutAndLongerTexts(t *testing.T) {
	bytes := []string{bytesOf(unlike(mostChanges)...)}
	for _, x := range known {
		bytes = append(bytes, x.bytes)
	}
	for _, s := range bytes {
		for i := range len(s) {
			checkNoBytes(t, s[:i])
			if i > 0 {
				checkText(t, s[i:])
			}
		}
		for _, more := range []string{"\x00", "\x01", "\x01\x05", "a", "\xff", "\x01\x01a", "\x01\x01z\x01\x01\x00", s} {
			checkNoBytes(t, s+more)
			checkText(t, more+s)
		}
	}
}

func TestGetOfAnOddRow(t *testing.T) {
	for n := range 25 {
		texts := textsOf(unlike(n)...)
		checkNoBytes(t, rowBytes(append(texts, "z")...))
		checkNoBytes(t, rowBytes(append(texts, "\x00")...))
		checkNoBytes(t, rowBytes(append(texts, "")...))
		checkNoBytes(t, rowBytes(append([]string{"a"}, texts...)...))
		for i := range texts {
			checkNoBytes(t, rowBytes(slices.Delete(slices.Clone(texts), i, i+1)...))
		}
	}
}

// The row counts another number of texts than there are.
func TestGetOfAWrongCount(t *testing.T) {
	for n := range 25 {
		texts := textsOf(unlike(n)...)
		behind := strings.TrimPrefix(rowBytes(texts...), numbersBytes(len(texts)))
		for count := range 50 {
			if count != len(texts) {
				checkNoBytes(t, numbersBytes(count)+behind)
			}
		}
		for _, count := range []int{256, 1000, 1001, 65536, 1<<24 + 2, mostNumber} {
			checkNoBytes(t, numbersBytes(count)+behind)
		}
	}
}

func TestGetOfAPathThatIsNone(t *testing.T) {
	for _, wrong := range noPaths() {
		for n := range 4 {
			for i := range n + 1 {
				for _, c := range []api.Change{gone(wrong), sized(wrong, 1)} {
					checkNoBytes(t, bytesOf(slices.Insert(unlike(n), i, c)...))
				}
			}
		}
	}
}

// wrongValues are no value's bytes.
func wrongValues() []string {
	l := []string{
		"", "\x01", "\x02", "\xff", "a", "\x00\x00", "\x00\x01", "\x00\x01\x00\x00\x00", "\x01\x00", "\x01\x00\x00", "\x01\x00\x00\x00\x00", "\x00\x00\x00", "\x02\x00\x00\x00", "\x01\x01\x00\x00\x00",
		"\x01\x01\x00\x00\x00\x00", "\x01\x02\x00\x05\x00\x00", "\x01\x05\x01\x00\x00\x00\x00\x00\x00", "\x01\x00\x00\x01\x01", "\x01\x00\x00\x01\x01\x01", "\x01\x00\x00\x01\x02\x00", "\x01\x00\x00\x01\x01\x00\x00",
		"\x01" + numbersBytes(mostSize+1, 0, 0), "\x01" + numbersBytes(0, mostMode+1, 0), "\x01" + numbersBytes(0, 0, 17) + strings.Repeat("\x00", 17), "\x01" + numbersBytes(0, 0, mostNumber),
		valueBytes(api.Meta{Size: 300, Mode: 7, Chunks: []int{5}}) + "\x00", strings.Repeat("\x00", 4000), "\x01" + strings.Repeat("\x00", 4000),
	}
	return l
}

func TestGetOfAValueThatIsNone(t *testing.T) {
	for _, wrong := range wrongValues() {
		for n := 1; n <= mostChanges; n++ {
			for i := range n {
				texts := textsOf(unlike(n)...)
				texts[2*i+1] = wrong
				checkNoBytes(t, rowBytes(texts...))
			}
		}
	}
	// The value stands ahead of its Path.
	checkNoBytes(t, rowBytes("\x00", "a"))
	checkNoBytes(t, rowBytes(valueBytes(api.Meta{}), "a"))
}

func TestGetOf21AndMore(t *testing.T) {
	twenty := bytesOf(unlike(mostChanges)...)
	checkGet(t, twenty, unlike(mostChanges), api.OK)
	for _, n := range []int{21, 22, 40, 128, 256, 276, 500, 501, 1000} {
		checkNoBytes(t, bytesOf(unlike(n)...))
	}
	// 21 that Norm would make fewer of.
	checkNoBytes(t, bytesOf(slices.Repeat(row(gone("a")), 21)...))
	checkNoBytes(t, bytesOf(append(unlike(mostChanges), unlike(mostChanges)[19])...))
}

// A number that has more bytes than it needs, or more than it may have, is none: in the row's count, and in front of its texts.
func TestGetOfNumbersInWrongForms(t *testing.T) {
	good := "\x01\x02\x01\x01a\x01\x01\x00"
	checkGet(t, good, row(gone("a")), api.OK)
	for _, x := range []string{
		"\x02\x00\x02\x01\x01a\x01\x01\x00", "\x04\x00\x00\x00\x02\x01\x01a\x01\x01\x00", "\x05\x00\x00\x00\x00\x02\x01\x01a\x01\x01\x00", "\x02\x01\x01a\x01\x01\x00", "\x01\x02",
		"\x01\x02\x02\x00\x01a\x01\x01\x00", "\x01\x02\x01a\x01\x01\x00", "\x01\x02\x01\x02a\x01\x01\x00", "\x01\x02\x00a\x01\x01\x00", "\x01\x02\x04\xff\xff\xff\xffa\x01\x01\x00",
		"\x01\x02\x01\x01a\x02\x00\x01\x00", "\x01\x02\x01\x01a\x01\x00", "\x01\x02\x01\x01a\x01\x02\x00", "\x01\x02\x01\x01a\x00", "\x01\x02\x01\x01a\x01\x01\x00\x00",
	} {
		checkNoBytes(t, x)
	}
	long := strings.Repeat("x", 1<<20)
	for _, x := range []string{long, good + long, rowBytes(long[:4000], "\x00"), rowBytes(long[:4001], "\x00"), rowBytes("a", long[:4001]), strings.Repeat("\x00", 1<<20), strings.Repeat("\x01", 1<<20), rowBytes(slices.Repeat([]string{"a", "\x00"}, 500)...), rowBytes(slices.Repeat([]string{"a", "\x00"}, 501)...)} {
		checkNoBytes(t, x)
	}
}

func TestAllShortTexts(t *testing.T) {
	check := func(s string) {
		if !t.Failed() {
			checkText(t, s)
		}
	}
	everyText("\x00\x01\x02\x04a", 7, check)
	everyText("\x00\x01\x02ab", 6, func(s string) { check("\x01\x02\x01\x01" + s) })
	everyText("\x00\x01\x02\x03\x04\x05\x10", 5, func(s string) { check("\x01\x02\x01\x01a\x01\x04\x01" + s) })
	everyText("\x00\x01ab.", 6, func(s string) { check("\x01\x04\x01\x01a\x01\x01\x00\x01" + s) })
}

// All texts that differ from a batch's bytes in one byte are another one's, or none's.
func TestChangedBytes(t *testing.T) {
	for _, x := range known {
		s := x.bytes
		for i := range len(s) {
			for b := range 256 {
				checkText(t, s[:i]+string([]byte{byte(b)})+s[i+1:])
			}
			checkText(t, s[:i]+s[i+1:])
			checkText(t, s[:i]+"\x00"+s[i:])
		}
	}
}

// batches are of all lengths, Paths and metas.
func batches() [][]api.Change {
	var l [][]api.Change
	for _, x := range known {
		l = append(l, x.l)
	}
	for n := 1; n <= mostChanges; n++ {
		l = append(l, unlike(n))
		var mixed []api.Change
		for i, p := range paths()[:n] {
			mixed = append(mixed, api.Change{Path: p, Meta: metas()[i%len(metas())]})
		}
		l = append(l, mixed)
	}
	for _, m := range metas() {
		l = append(l, row(api.Change{Path: path100, Meta: m}))
	}
	// As long as a batch's bytes can be.
	var longest []api.Change
	for i := range mostChanges {
		longest = append(longest, full(path100[:98]+fmt.Sprintf("%02d", i), mostSize, mostMode, slices.Repeat([]int{mostNumber - i}, 16)...))
	}
	return append(l, longest)
}

func TestNormOfABatchIsIt(t *testing.T) {
	for _, l := range batches() {
		norm, e := batch.Norm(l)
		if e != api.OK || !same(norm, l) {
			t.Errorf("P14.3: Norm of the batch %+v: %+v, %d", l, norm, e)
		}
		checkJoin(t, l, l, l, api.OK)
		checkJoin(t, l, nil, l, api.OK)
		checkJoin(t, nil, l, l, api.OK)
	}
}

func TestWhatIsPutIsGot(t *testing.T) {
	for _, l := range batches() {
		s, e := batch.Put(l)
		got, f := batch.Get(s)
		if e != api.OK || f != api.OK || !same(got, l) {
			t.Errorf("P14.3: %+v was put: %q, %d; got: %+v, %d", l, s, e, got, f)
		}
	}
}

func TestWhatIsGotIsPut(t *testing.T) {
	for _, l := range batches() {
		s := bytesOf(l...)
		got, e := batch.Get(s)
		put, f := batch.Put(got)
		if e != api.OK || f != api.OK || put != s {
			t.Errorf("P14.3: of %q was got: %+v, %d; put: %q, %d", s, got, e, put, f)
		}
	}
}

// orders are rows of the same changes, in other orders: all of them of few, and some of many.
func orders(l []api.Change) [][]api.Change {
	if len(l) == 0 {
		return [][]api.Change{nil}
	}
	var rows [][]api.Change
	if len(l) > 6 {
		back := backwards(l)
		for i := range l {
			rows = append(rows, slices.Concat(l[i:], l[:i]), slices.Concat(back[i:], back[:i]))
		}
		return rows
	}
	for i := range l {
		for _, rest := range orders(slices.Delete(slices.Clone(l), i, i+1)) {
			rows = append(rows, append(row(l[i]), rest...))
		}
	}
	return rows
}

func TestTheOrderOfUnlikePathsPlaysNoPart(t *testing.T) {
	for _, l := range batches() {
		for _, given := range orders(l) {
			checkNorm(t, "P14.3", given, l, api.OK)
		}
	}
}

// Neighbours of unlike Paths are turned, others not: so each order that keeps that of the same Paths is come to.
func TestTurnedNeighboursOfUnlikePaths(t *testing.T) {
	everyRow(row(sized("a", 1), gone("a"), full("b", 2, 7, 5), sized("b", 3), gone("a/b")), 5, func(l []api.Change) {
		norm, e := batch.Norm(l)
		for i := 1; i < len(l); i++ {
			if l[i-1].Path == l[i].Path {
				continue
			}
			turned := slices.Clone(l)
			turned[i-1], turned[i] = turned[i], turned[i-1]
			checkNorm(t, "P14.3", turned, norm, e)
		}
	})
}

// givens are such as each call takes, and such as it refuses.
func givens() [][]api.Change {
	l := [][]api.Change{nil, {}}
	for _, b := range batches() {
		l = append(l, b, backwards(b), slices.Concat(b, b))
	}
	l = append(l, unlike(21), slices.Repeat(row(full("b", 300, 7, 5, 6), full("a", 300, 7, 5)), 30))
	for _, c := range fewNoChanges() {
		l = append(l, row(c), row(full("b", 300, 7, 5, 6), full("a", 1, 1, 1), c))
	}
	return l
}

func TestWhatIsToldBesidesAnErrorIsZero(t *testing.T) {
	for _, l := range givens() {
		if norm, e := batch.Norm(l); e != api.OK && len(norm) != 0 {
			t.Errorf("R1: Norm(%+v): %+v, %d", brief(l), norm, e)
		}
		if s, e := batch.Put(l); e != api.OK && s != "" {
			t.Errorf("R1: Put(%+v): %q, %d", brief(l), s, e)
		}
		for _, other := range [][]api.Change{nil, unlike(21), row(gone("")), row(sized("zz", -1))} {
			if j, e := batch.Join(l, other); e != api.OK && len(j) != 0 {
				t.Errorf("R1: Join(%+v, %+v): %+v, %d", brief(l), brief(other), j, e)
			}
		}
		// Each is refused late: at its last byte, or behind it.
		s := bytesOf(l...)
		for _, wrong := range []string{s[:len(s)-1], s + "\x00", s + "\x01\x01z"} {
			if got, e := batch.Get(wrong); len(got) != 0 || e != api.ErrFrame {
				t.Errorf("R1: Get(%q): %+v, %d", short(wrong), got, e)
			}
		}
	}
}

// roomy is l with room behind the last change and behind each last Chunk, which is nobody's to write to.
func roomy(l []api.Change) []api.Change {
	room := append(clone(l), sized("room", 1), gone("room"), sized("room", 3))
	for i, c := range l {
		room[i].Meta.Chunks = append(slices.Clone(c.Meta.Chunks), 11, 12, 13)[:len(c.Meta.Chunks)]
	}
	return room[:len(l)]
}

// withRoom is l up to the end of its room, and of that of its Chunks, on memory of its own.
func withRoom(l []api.Change) []api.Change {
	l = slices.Clone(l[:cap(l)])
	for i, c := range l {
		l[i].Meta.Chunks = slices.Clone(c.Meta.Chunks[:cap(c.Meta.Chunks)])
	}
	return l
}

func TestWhatCameInIsAsItWas(t *testing.T) {
	for _, l := range givens() {
		given, other := roomy(l), roomy(row(full("c", 3, 3, 3), full("a", 4, 4, 4)))
		was, otherWas := withRoom(given), withRoom(other)
		batch.Is(given)
		batch.Norm(given)
		batch.Put(given)
		batch.Join(given, other)
		batch.Join(other, given)
		batch.Join(given, given)
		if !same(withRoom(given), was) || !same(withRoom(other), otherWas) {
			t.Errorf("R2: %+v were given; now they are %+v", brief(was), brief(withRoom(given)))
		}
	}
}

// overwrite goes up to the room behind the last change, and behind each last Chunk: no two answers share that either.
func overwrite(l []api.Change) {
	l = l[:cap(l)]
	for i, c := range l {
		chunks := c.Meta.Chunks[:cap(c.Meta.Chunks)]
		for k := range chunks {
			chunks[k] = 77
		}
		l[i] = full("overwritten", 77, 77, 77)
	}
}

// What came in is not kept: its rows may be written over.
func TestArgumentsPlayNoPartInLaterCalls(t *testing.T) {
	for _, l := range givens() {
		given, other := roomy(l), roomy(row(full("c", 3, 3, 3), full("a", 4, 4, 4)))
		want, wantErr := normOf(l)
		wantBoth, bothErr := normOf(slices.Concat(l, clone(other)))
		norm, e := batch.Norm(given)
		joined, f := batch.Join(given, other)
		put, g := batch.Put(given)
		overwrite(given)
		overwrite(other)
		if !same(norm, want) || e != wantErr || !same(joined, wantBoth) || f != bothErr {
			t.Errorf("R2: answers changed with what was given, %+v: %+v, %d; %+v, %d", brief(l), brief(norm), e, brief(joined), f)
		}
		checkPut(t, l, put, g)
		checkChanges(t, l)
	}
}

// everyAnswer is what each call tells of l, one behind the other; all of them the same, if l is a batch.
func everyAnswer(l []api.Change, s string) [][]api.Change {
	one, _ := batch.Norm(l)
	two, _ := batch.Norm(l)
	three, _ := batch.Join(l, nil)
	four, _ := batch.Join(nil, l)
	five, _ := batch.Join(l, l)
	six, _ := batch.Get(s)
	seven, _ := batch.Get(s)
	return [][]api.Change{one, two, three, four, five, six, seven}
}

func TestAnswersPlayNoPartInLaterCalls(t *testing.T) {
	for _, l := range batches() {
		given, s := roomy(l), bytesOf(l...)
		was := withRoom(given)
		for range 3 {
			for _, told := range everyAnswer(given, s) {
				if !same(told, l) {
					t.Errorf("R2: an answer changed with another: %+v; want %+v", told, l)
				}
				overwrite(told)
				checkBatch(t, l, s)
			}
		}
		if !same(withRoom(given), was) {
			t.Errorf("R2: %+v were given; now they are %+v", was, withRoom(given))
		}
	}
}

// Of one answer no two Chunks share memory, also where those that came in did.
func TestChunksOfOneAnswerShareNoMemory(t *testing.T) {
	for n := 1; n <= mostChanges; n++ {
		for _, chunks := range [][]int{{5}, {5, 6, 7}, slices.Repeat([]int{5}, 16)} {
			var l []api.Change
			for i := range n {
				l = append(l, full(fmt.Sprintf("f%05d", i), i, 7, chunks...))
			}
			want := clone(l)
			for _, told := range everyAnswer(l, bytesOf(l...)) {
				for i := range told {
					// Room behind the last Chunk is written to, too.
					_ = append(told[i].Meta.Chunks, 77)
					if !same(told[i:], want[i:]) {
						t.Fatalf("R2: Chunks changed with others': %+v; want %+v", told[i:], want[i:])
					}
					overwrite(told[i : i+1 : i+1])
				}
			}
			if !same(l, want) {
				t.Fatalf("R2: what was given changed with the answers: %+v; want %+v", l, want)
			}
		}
	}
}

func FuzzGet(f *testing.F) {
	for _, x := range known {
		f.Add(x.bytes)
		f.Add(x.bytes + "\x00")
		f.Add(x.bytes[1:])
	}
	f.Add(bytesOf(unlike(20)...))
	f.Add(bytesOf(unlike(21)...))
	f.Fuzz(checkText)
}

// FuzzNorm makes a change of each line of paths, and of each nine bytes of kinds.
func FuzzNorm(f *testing.F) {
	f.Add("b\na\nb", "\x01\x00\x00\x00\x00\x00\x00\x00\x00\x00\x00\x00\x00\x00\x00\x00\x00\x01\x00\x00\x00\x00\x00\x00\x00\x00\x02", 1)
	f.Add("a\na/b\na0\n\na", "\x02\x00\x00\x00\x00\xff\xff\xff\xff\x03\x00\x00\x00\x00\xff\xff\xff\xff\x04\x00\x00\x00\x00\xff\xff\xff\xff", 2)
	f.Add(strings.Join(paths(), "\n"), "", 0)
	f.Add(strings.Join(paths()[:20], "\n"), strings.Repeat("\x04\x00\x00\x00\x00\x00\x00\x00\x00", 20), 9)
	f.Fuzz(func(t *testing.T, paths, kinds string, at int) {
		var l []api.Change
		for _, p := range strings.Split(paths, "\n") {
			c := api.Change{Path: p}
			if len(kinds) >= 9 {
				n := int(binary.BigEndian.Uint64([]byte(kinds[1:])))
				switch c.Gone = kinds[0]&1 == 1; kinds[0] >> 1 & 3 {
				case 0:
					c.Meta.Size = n
				case 1:
					c.Meta.Mode = n
				case 2:
					c.Meta.Chunks = slices.Repeat([]int{n}, int(kinds[0]>>3))
				}
				kinds = kinds[9:]
			}
			l = append(l, c)
		}
		checkChanges(t, l)
		i := min(max(at, 0), len(l))
		want, e := normOf(l)
		checkJoin(t, l[:i], l[i:], want, e)
	})
}
