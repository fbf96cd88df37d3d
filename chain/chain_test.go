package chain_test

import (
	"hash/crc32"
	"math"
	"slices"
	"strings"
	"testing"

	"sexton/api"
	"sexton/chain"
)

const (
	longest    = 4000
	mostChunks = 16
	mostSize   = 1000000000
	mostMode   = 4095
	mostNumber = 4294967295
)

// Sums written out by hand: no call of the program made them.
const (
	sumA     = 3904355907 // of `a`
	sumB     = 1908338681 // of `b`
	sumAb    = 2659403885 // of `ab`
	sumC     = 112844655  // of `c`
	sumCd    = 1171689434 // of `cd`
	sumE     = 4024072794 // of `e`
	sumTwice = 1306201125 // of `plumless`, and of `buckeroo`
)

// zeroSum has the Sum that no text has: 0.
const zeroSum = "\x9d\x0a\xd9\x6d"

var cuts = []struct {
	s    string
	n    int
	want []string
	e    api.Errno
}{
	{"abcde", 2, []string{"ab", "cd", "e"}, api.OK},
	{"", 2, nil, api.OK},
	{"", 1, nil, api.OK},
	{"", 4000, nil, api.OK},
	{"a", 1, []string{"a"}, api.OK},
	{"a", 2, []string{"a"}, api.OK},
	{"ab", 1, []string{"a", "b"}, api.OK},
	{"ab", 2, []string{"ab"}, api.OK},
	{"abc", 2, []string{"ab", "c"}, api.OK},
	{"abcd", 2, []string{"ab", "cd"}, api.OK},
	{"abab", 2, []string{"ab", "ab"}, api.OK},
	{"abc", 4000, []string{"abc"}, api.OK},
	{"\x00\x00\xff", 1, []string{"\x00", "\x00", "\xff"}, api.OK},
	{"é", 1, []string{"\xc3", "\xa9"}, api.OK},
	{"0123456789abcdef", 1, []string{"0", "1", "2", "3", "4", "5", "6", "7", "8", "9", "a", "b", "c", "d", "e", "f"}, api.OK},
	{"0123456789abcdefg", 1, nil, api.ErrLimit},
	{"0123456789abcdefg", 2, []string{"01", "23", "45", "67", "89", "ab", "cd", "ef", "g"}, api.OK},
	{"abcde", 0, nil, api.ErrArg},
	{"abcde", -1, nil, api.ErrArg},
	{"abcde", 4001, nil, api.ErrArg},
	{"", 0, nil, api.ErrArg},
	{"", -2, nil, api.ErrArg},
	{"", 4001, nil, api.ErrArg},
	{"0123456789abcdefg", 0, nil, api.ErrArg},
	{"0123456789abcdefg", -1, nil, api.ErrArg},
	{"0123456789abcdefg", 4001, nil, api.ErrArg},
}

// wrongLengths are no chunk's; some wrap round to one where fewer bits hold them.
var wrongLengths = []int{math.MinInt, math.MinInt + 2, -1 << 32, -1<<32 + 2, -4000, -2, -1, 0, 4001, 4002, 8000, 65536, 65538, 1<<32 + 2, 1 << 60, 1 << 62, math.MaxInt - 1, math.MaxInt}

var wrongModes = []int{math.MinInt, -1 << 32, -4095, -2, -1, 4096, 4097, 8191, 65536, 1 << 32, 1<<32 + 7, math.MaxInt}

// lengths are those that a chunk may have: the edges, and some between.
var lengths = []int{1, 2, 3, 7, 16, 17, 255, 256, 1000, 2047, 3998, 3999, 4000}

// noise is n bytes without a pattern: the first few hundred chunks of 3 and more that it is cut into are all unlike.
func noise(n int) string {
	b := make([]byte, n)
	x := uint32(1)
	for i := range b {
		x = x*1664525 + 1013904223
		b[i] = byte(x >> 24)
	}
	return string(b)
}

// textsFor are those whose number of bytes is an edge for chunks of n bytes.
func textsFor(n int) []string {
	long := noise(20*n + 1)
	var l []string
	for _, k := range []int{0, 1, 2, 3, 8, 15, 16, 17, 20} {
		for _, by := range []int{-1, 0, 1} {
			if m := k*n + by; m >= 0 {
				l = append(l, long[:m], strings.Repeat("x", m))
			}
		}
	}
	return l
}

// The document's words, told by other means than the program's.

func sumOf(s string) int { return int(crc32.ChecksumIEEE([]byte(s))) }

func sumsOf(l []string) []int {
	sums := make([]int, len(l))
	for i := range l {
		sums[i] = sumOf(l[i])
	}
	return sums
}

func cutOf(s string, n int) ([]string, api.Errno) {
	if n < 1 || n > longest {
		return nil, api.ErrArg
	}
	var l []string
	for chunk := range slices.Chunk([]byte(s), n) {
		l = append(l, string(chunk))
	}
	if len(l) > mostChunks {
		return nil, api.ErrLimit
	}
	return l, api.OK
}

func describedOf(s string, n, mode int) (api.Meta, []string, api.Errno) {
	l, e := cutOf(s, n)
	switch {
	case e != api.OK:
		return api.Meta{}, nil, e
	case mode < 0 || mode > mostMode:
		return api.Meta{}, nil, api.ErrArg
	}
	return api.Meta{Size: len(s), Mode: mode, Chunks: sumsOf(l)}, l, api.OK
}

func mayBe(m api.Meta) bool {
	wrong := func(c int) bool { return c < 0 || c > mostNumber }
	return m.Size >= 0 && m.Size <= mostSize && m.Mode >= 0 && m.Mode <= mostMode && len(m.Chunks) <= mostChunks && !slices.ContainsFunc(m.Chunks, wrong)
}

// placeOf is where in l the first text with the Sum c stands, or -1.
func placeOf(l []string, c int) int {
	return slices.IndexFunc(l, func(s string) bool { return sumOf(s) == c })
}

func wholeOf(m api.Meta, l []string) (string, api.Errno) {
	if !mayBe(m) {
		return "", api.ErrArg
	}
	whole := ""
	for _, c := range m.Chunks {
		i := placeOf(l, c)
		if i < 0 {
			return "", api.ErrNone
		}
		whole += l[i]
	}
	if len(whole) != m.Size {
		return "", api.ErrNone
	}
	return whole, api.OK
}

func haveOf(m api.Meta, l []string) []int {
	var places []int
	for i := range m.Chunks {
		if placeOf(l, m.Chunks[i]) >= 0 {
			places = append(places, i)
		}
	}
	return places
}

// forged is head and four bytes behind it, with which it has that Sum.
func forged(head string, sum uint32) string {
	c := ^sum
	table := crc32.MakeTable(crc32.IEEE)
	// Back through four steps, each of which some byte could have made.
	for range 4 {
		i := slices.IndexFunc(table[:], func(t uint32) bool { return t>>24 == c>>24 })
		c = (c^table[i])<<8 | uint32(i)
	}
	c ^= ^crc32.ChecksumIEEE([]byte(head))
	return head + string([]byte{byte(c), byte(c >> 8), byte(c >> 16), byte(c >> 24)})
}

// same takes no Chunks for the same, nil or not.
func same(a, b api.Meta) bool {
	return a.Size == b.Size && a.Mode == b.Mode && slices.Equal(a.Chunks, b.Chunks)
}

// short and brief cut what is long so that a failure can be read.
func short(s string) string {
	if len(s) > 40 {
		return s[:40] + ".."
	}
	return s
}

func shorts(l []string) []string {
	var cut []string
	for _, s := range l[:min(len(l), 17)] {
		cut = append(cut, short(s))
	}
	return cut
}

func brief(m api.Meta) api.Meta {
	m.Chunks = m.Chunks[:min(len(m.Chunks), mostChunks+1)]
	return m
}

func checkCut(t *testing.T, s string, n int, want []string, wantErr api.Errno) {
	t.Helper()
	if l, e := chain.Cut(s, n); !slices.Equal(l, want) || e != wantErr {
		t.Errorf("P13.1: Cut(%q, %d), %d bytes: %q, %d; want %q, %d", short(s), n, len(s), shorts(l), e, shorts(want), wantErr)
	}
}

func checkSums(t *testing.T, l []string, want []int) {
	t.Helper()
	if sums := chain.Sums(l); !slices.Equal(sums, want) {
		t.Errorf("P13.1: Sums(%q): %v; want %v", shorts(l), sums, want)
	}
}

func checkDescribe(t *testing.T, s string, n, mode int, want api.Meta, wantRow []string, wantErr api.Errno) {
	t.Helper()
	if m, l, e := chain.Describe(s, n, mode); !same(m, want) || !slices.Equal(l, wantRow) || e != wantErr {
		t.Errorf("P13.2: Describe(%q, %d, %d), %d bytes: %+v, %q, %d; want %+v, %q, %d", short(s), n, mode, len(s), m, shorts(l), e, want, shorts(wantRow), wantErr)
	}
}

func checkNotDescribed(t *testing.T, s string, n, mode int, want api.Errno) {
	t.Helper()
	checkDescribe(t, s, n, mode, api.Meta{}, nil, want)
}

// checkText holds every call that takes a text against the document's words.
func checkText(t *testing.T, s string, n, mode int) {
	t.Helper()
	l, e := cutOf(s, n)
	checkCut(t, s, n, l, e)
	checkSums(t, l, sumsOf(l))
	m, l, e := describedOf(s, n, mode)
	checkDescribe(t, s, n, mode, m, l, e)
}

func checkWhole(t *testing.T, promise string, m api.Meta, l []string, want string, wantErr api.Errno) {
	t.Helper()
	if s, e := chain.Whole(m, l); s != want || e != wantErr {
		t.Errorf("%s: Whole(%+v, %q): %q, %d bytes, %d; want %q, %d bytes, %d", promise, brief(m), shorts(l), short(s), len(s), e, short(want), len(want), wantErr)
	}
}

func checkHave(t *testing.T, promise string, m api.Meta, l []string, want []int) {
	t.Helper()
	if places := chain.Have(m, l); !slices.Equal(places, want) {
		t.Errorf("%s: Have(%+v, %q): %v; want %v", promise, brief(m), shorts(l), places, want)
	}
}

// checkRow holds both calls that take a meta and a row against the document's words.
func checkRow(t *testing.T, m api.Meta, l []string) {
	t.Helper()
	s, e := wholeOf(m, l)
	checkWhole(t, "P13.3", m, l, s, e)
	checkHave(t, "P13.3", m, l, haveOf(m, l))
}

func TestMeansOfTheTests(t *testing.T) {
	for s, sum := range map[string]int{"": 0, zeroSum: 0, "a": sumA, "b": sumB, "ab": sumAb, "c": sumC, "cd": sumCd, "e": sumE, "plumless": sumTwice, "buckeroo": sumTwice, "123456789": 3421780262} {
		if sumOf(s) != sum {
			t.Errorf("sumOf(%q): %d; want %d", s, sumOf(s), sum)
		}
		for _, head := range []string{"", "x", "ab", noise(300)} {
			if f := forged(head, uint32(sum)); sumOf(f) != sum || !strings.HasPrefix(f, head) || len(f) != len(head)+4 {
				t.Errorf("forged(%q, %d): %q", short(head), sum, short(f))
			}
		}
	}
}

func TestKnownCuts(t *testing.T) {
	for _, x := range cuts {
		checkCut(t, x.s, x.n, x.want, x.e)
	}
}

func TestCutOfWrongLengths(t *testing.T) {
	for _, n := range wrongLengths {
		for _, s := range []string{"", "a", "abcde", strings.Repeat("x", 17), noise(64000), noise(64001), noise(1 << 20)} {
			checkCut(t, s, n, nil, api.ErrArg)
		}
	}
}

func TestCutAtEachLength(t *testing.T) {
	long := noise(17*longest + 1)
	for n := 1; n <= longest; n++ {
		for _, m := range []int{0, 1, n - 1, n, n + 1, 15*n + 1, 16*n - 1, 16 * n, 16*n + 1, 17 * n} {
			s := long[:m]
			want, e := cutOf(s, n)
			checkCut(t, s, n, want, e)
		}
	}
}

func TestCutAtMost16Chunks(t *testing.T) {
	long := noise(1 << 20)
	for _, n := range lengths {
		sixteen := make([]string, 16)
		for i := range sixteen {
			sixteen[i] = long[i*n : i*n+n]
		}
		checkCut(t, long[:16*n], n, sixteen, api.OK)
		checkCut(t, long[:16*n+1], n, nil, api.ErrLimit)
		checkCut(t, long[:17*n], n, nil, api.ErrLimit)
		checkCut(t, long, n, nil, api.ErrLimit)
		// One byte fewer is missing from the last one alone.
		sixteen[15] = sixteen[15][:n-1]
		if n == 1 {
			sixteen = sixteen[:15]
		}
		checkCut(t, long[:16*n-1], n, sixteen, api.OK)
	}
}

func TestTextsAtTheEdges(t *testing.T) {
	for _, n := range lengths {
		for i, s := range textsFor(n) {
			checkText(t, s, n, i*613%(mostMode+1))
		}
	}
}

func TestAllShortTexts(t *testing.T) {
	for _, s := range strings.Split("a b c \x00 \xff", " ") {
		for m := range 20 {
			for n := -1; n < 20; n++ {
				checkText(t, strings.Repeat(s, m), n, m*n)
				checkText(t, noise(m), n, 7)
			}
		}
	}
}

func TestKnownSums(t *testing.T) {
	for _, x := range []struct {
		l    []string
		want []int
	}{
		{nil, nil},
		{[]string{}, nil},
		{[]string{""}, []int{0}},
		{[]string{"", "", ""}, []int{0, 0, 0}},
		{[]string{"123456789"}, []int{3421780262}},
		{[]string{"", "123456789", ""}, []int{0, 3421780262, 0}},
		{[]string{"ab", "cd", "e"}, []int{sumAb, sumCd, sumE}},
		{[]string{"e", "cd", "ab"}, []int{sumE, sumCd, sumAb}},
		{[]string{"a", "a", "b", "a"}, []int{sumA, sumA, sumB, sumA}},
		{[]string{"plumless", "buckeroo"}, []int{sumTwice, sumTwice}},
		{[]string{"\xff\xff\xff\xff", zeroSum, "\x00"}, []int{mostNumber, 0, 3523407757}},
	} {
		checkSums(t, x.l, x.want)
	}
}

// More texts than a file may have chunks, and longer ones than a chunk may be.
func TestSumsOfLongRows(t *testing.T) {
	var l []string
	for n := range 3000 {
		l = append(l, noise(n%50), strings.Repeat("x", n))
	}
	l = append(l, noise(4000), noise(4001), noise(1<<20))
	checkSums(t, l, sumsOf(l))
	checkSums(t, make([]string, 17), make([]int, 17))
	checkSums(t, make([]string, 1<<16), make([]int, 1<<16))
}

func TestKnownDescriptions(t *testing.T) {
	for _, x := range []struct {
		s    string
		n    int
		mode int
		m    api.Meta
		l    []string
	}{
		{"abab", 2, 7, api.Meta{Size: 4, Mode: 7, Chunks: []int{sumAb, sumAb}}, []string{"ab", "ab"}},
		{"abcde", 2, 420, api.Meta{Size: 5, Mode: 420, Chunks: []int{sumAb, sumCd, sumE}}, []string{"ab", "cd", "e"}},
		{"a", 4000, 1, api.Meta{Size: 1, Mode: 1, Chunks: []int{sumA}}, []string{"a"}},
		{"ab", 1, 0, api.Meta{Size: 2, Chunks: []int{sumA, sumB}}, []string{"a", "b"}},
		{"", 1, 0, api.Meta{}, nil},
		{"", 4000, 4095, api.Meta{Mode: 4095}, nil},
		{"plumlessbuckeroo", 8, 7, api.Meta{Size: 16, Mode: 7, Chunks: []int{sumTwice, sumTwice}}, []string{"plumless", "buckeroo"}},
		{strings.Repeat("a", 16), 1, 4095, api.Meta{Size: 16, Mode: 4095, Chunks: slices.Repeat([]int{sumA}, 16)}, slices.Repeat([]string{"a"}, 16)},
	} {
		checkDescribe(t, x.s, x.n, x.mode, x.m, x.l, api.OK)
	}
	long := strings.Repeat("x", 64000)
	sixteen := slices.Repeat([]string{long[:4000]}, 16)
	checkDescribe(t, long, 4000, 7, api.Meta{Size: 64000, Mode: 7, Chunks: sumsOf(sixteen)}, sixteen, api.OK)
	checkNotDescribed(t, long+"x", 4000, 7, api.ErrLimit)
}

func TestEdgesOfMode(t *testing.T) {
	for mode := range mostMode + 1 {
		checkDescribe(t, "abc", 2, mode, api.Meta{Size: 3, Mode: mode, Chunks: []int{sumAb, sumC}}, []string{"ab", "c"}, api.OK)
		checkDescribe(t, "", 2, mode, api.Meta{Mode: mode}, nil, api.OK)
	}
	for _, mode := range wrongModes {
		for _, n := range lengths {
			for _, s := range []string{"", "a", "abcde", noise(n), noise(16 * n)} {
				// Few of them make more than 16 chunks, and those have Cut's error.
				want := api.ErrArg
				if len(s) > 16*n {
					want = api.ErrLimit
				}
				checkNotDescribed(t, s, n, mode, want)
			}
		}
	}
}

func TestOrderOfRefusals(t *testing.T) {
	for _, mode := range append([]int{0, 7, mostMode}, wrongModes...) {
		// Cut's error comes first, whatever the mode; of Cut's, that of n does.
		for _, n := range lengths {
			checkNotDescribed(t, noise(16*n+1), n, mode, api.ErrLimit)
			checkNotDescribed(t, noise(17*n), n, mode, api.ErrLimit)
		}
		for _, n := range wrongLengths {
			for _, s := range []string{"", "a", noise(17), noise(64001)} {
				checkNotDescribed(t, s, n, mode, api.ErrArg)
			}
		}
	}
	// A meta that may not be comes ahead of a chunk that is missing, and of a wrong Size.
	for _, m := range noMetas() {
		checkWhole(t, "P13.3", m, nil, "", api.ErrArg)
	}
}

var wholes = []struct {
	m    api.Meta
	l    []string
	want string
	e    api.Errno
	have []int
}{
	{api.Meta{}, nil, "", api.OK, nil},
	{api.Meta{Chunks: []int{}}, []string{}, "", api.OK, nil},
	{api.Meta{Mode: 7}, []string{"a", "b", ""}, "", api.OK, nil},
	{api.Meta{Size: 1}, nil, "", api.ErrNone, nil},
	{api.Meta{Size: 1}, []string{"a"}, "", api.ErrNone, nil},
	{api.Meta{Size: mostSize, Mode: mostMode}, []string{"a"}, "", api.ErrNone, nil},
	{api.Meta{Chunks: []int{0}}, nil, "", api.ErrNone, nil},
	{api.Meta{Chunks: []int{0}}, []string{"a"}, "", api.ErrNone, nil},
	{api.Meta{Chunks: []int{0}}, []string{""}, "", api.OK, []int{0}},
	{api.Meta{Chunks: []int{0, 0}}, []string{"a", ""}, "", api.OK, []int{0, 1}},
	{api.Meta{Size: 1, Chunks: []int{0, sumA}}, []string{"a", ""}, "a", api.OK, []int{0, 1}},
	{api.Meta{Size: 1, Chunks: []int{0, sumA}}, []string{"a"}, "", api.ErrNone, []int{1}},
	{api.Meta{Size: 1, Chunks: []int{sumA}}, []string{"a"}, "a", api.OK, []int{0}},
	{api.Meta{Size: 1, Chunks: []int{sumA}}, []string{"b"}, "", api.ErrNone, nil},
	{api.Meta{Size: 0, Chunks: []int{sumA}}, []string{"a"}, "", api.ErrNone, []int{0}},
	{api.Meta{Size: 2, Chunks: []int{sumA}}, []string{"a"}, "", api.ErrNone, []int{0}},
	{api.Meta{Size: 5, Mode: 7, Chunks: []int{sumAb, sumCd, sumE}}, []string{"ab", "cd", "e"}, "abcde", api.OK, []int{0, 1, 2}},
	{api.Meta{Size: 5, Mode: 7, Chunks: []int{sumAb, sumCd, sumE}}, []string{"e", "ab", "cd"}, "abcde", api.OK, []int{0, 1, 2}},
	{api.Meta{Size: 5, Mode: 7, Chunks: []int{sumE, sumCd, sumAb}}, []string{"ab", "cd", "e"}, "ecdab", api.OK, []int{0, 1, 2}},
	{api.Meta{Size: 5, Chunks: []int{sumAb, sumCd, sumE}}, []string{"cd", "e"}, "", api.ErrNone, []int{1, 2}},
	{api.Meta{Size: 5, Chunks: []int{sumAb, sumCd, sumE}}, []string{"ab", "e"}, "", api.ErrNone, []int{0, 2}},
	{api.Meta{Size: 5, Chunks: []int{sumAb, sumCd, sumE}}, []string{"ab", "cd"}, "", api.ErrNone, []int{0, 1}},
	{api.Meta{Size: 5, Chunks: []int{sumAb, sumCd, sumE}}, nil, "", api.ErrNone, nil},
	{api.Meta{Size: 4, Chunks: []int{sumAb, sumCd, sumE}}, []string{"ab", "cd", "e"}, "", api.ErrNone, []int{0, 1, 2}},
	{api.Meta{Size: 6, Chunks: []int{sumAb, sumCd, sumE}}, []string{"ab", "cd", "e"}, "", api.ErrNone, []int{0, 1, 2}},
	// The bytes of a missing chunk are not those of the whole.
	{api.Meta{Size: 4, Chunks: []int{sumAb, sumCd, sumE}}, []string{"ab", "cd"}, "", api.ErrNone, []int{0, 1}},
	{api.Meta{Size: 5, Chunks: []int{sumAb, sumCd, sumE}}, []string{"x", "e", "", "cd", "y", "ab", "z"}, "abcde", api.OK, []int{0, 1, 2}},
	{api.Meta{Size: 5, Chunks: []int{sumAb, sumAb, sumC}}, []string{"c", "ab"}, "ababc", api.OK, []int{0, 1, 2}},
	{api.Meta{Size: 5, Chunks: []int{sumAb, sumAb, sumC}}, []string{"ab", "c", "ab", "ab"}, "ababc", api.OK, []int{0, 1, 2}},
	{api.Meta{Size: 16, Mode: 7, Chunks: slices.Repeat([]int{sumA}, 16)}, []string{"a"}, "aaaaaaaaaaaaaaaa", api.OK, []int{0, 1, 2, 3, 4, 5, 6, 7, 8, 9, 10, 11, 12, 13, 14, 15}},
	{api.Meta{Size: 1, Mode: 7, Chunks: slices.Repeat([]int{sumA}, 16)}, []string{"a"}, "", api.ErrNone, []int{0, 1, 2, 3, 4, 5, 6, 7, 8, 9, 10, 11, 12, 13, 14, 15}},
	{api.Meta{Size: 8, Chunks: []int{sumTwice}}, []string{"plumless", "buckeroo"}, "plumless", api.OK, []int{0}},
	{api.Meta{Size: 8, Chunks: []int{sumTwice}}, []string{"buckeroo", "plumless"}, "buckeroo", api.OK, []int{0}},
	{api.Meta{Size: 16, Chunks: []int{sumTwice, sumTwice}}, []string{"plumless", "buckeroo"}, "plumlessplumless", api.OK, []int{0, 1}},
	{api.Meta{Size: 16, Chunks: []int{sumTwice, sumTwice}}, []string{"a", "buckeroo", "plumless", "buckeroo"}, "buckeroobuckeroo", api.OK, []int{0, 1}},
	// The first one counts, also where only the second one makes up the Size.
	{api.Meta{Size: 4, Chunks: []int{0}}, []string{"", zeroSum}, "", api.ErrNone, []int{0}},
	{api.Meta{Size: 0, Chunks: []int{0}}, []string{"", zeroSum}, "", api.OK, []int{0}},
	{api.Meta{Size: 4, Chunks: []int{0}}, []string{zeroSum, ""}, zeroSum, api.OK, []int{0}},
	{api.Meta{Size: 0, Chunks: []int{0}}, []string{zeroSum, ""}, "", api.ErrNone, []int{0}},
}

func TestKnownWholes(t *testing.T) {
	for _, x := range wholes {
		checkWhole(t, "P13.3", x.m, x.l, x.want, x.e)
		checkHave(t, "P13.3", x.m, x.l, x.have)
	}
}

// wrongNumbers may be neither a Size nor a Mode nor a Chunk; some wrap round to a Sum where fewer bits hold them.
func wrongNumbers() []int {
	return []int{math.MinInt, -1 << 40, sumA - 1<<32, -mostNumber, -sumA, -2, -1, mostNumber + 1, 1<<32 + 7, 1<<32 + sumA, 1<<33 + sumA, 1 << 62, math.MaxInt}
}

// noMetas may not be, none of them.
func noMetas() []api.Meta {
	l := []api.Meta{
		{Size: mostSize + 1}, {Mode: mostMode + 1}, {Size: 1, Mode: mostMode + 1, Chunks: []int{sumA}}, {Size: -1, Mode: -1, Chunks: []int{-1}},
		{Chunks: make([]int, 17)}, {Size: 17, Mode: 7, Chunks: slices.Repeat([]int{sumA}, 17)}, {Size: 16, Chunks: slices.Repeat([]int{sumA}, 18)}, {Chunks: make([]int, 1<<17)},
	}
	for _, n := range wrongNumbers() {
		l = append(l, api.Meta{Size: n}, api.Meta{Size: n, Chunks: []int{sumA}}, api.Meta{Mode: n}, api.Meta{Size: 1, Mode: n, Chunks: []int{sumA}})
		for _, most := range []int{1, 2, 3, 16} {
			for i := range most {
				row := slices.Repeat([]int{sumA}, most)
				row[i] = n
				l = append(l, api.Meta{Size: most, Mode: 7, Chunks: row})
			}
		}
	}
	return l
}

// Have asks of each Chunk alone, so that a meta that may not be is told of, too.
func TestMetasThatMayNotBe(t *testing.T) {
	for _, m := range noMetas() {
		for _, l := range [][]string{nil, {}, {"a"}, {"", "a"}, {"b", "a", "a"}, {"plumless", "\xff\xff\xff\xff", zeroSum}} {
			checkWhole(t, "P13.3", m, l, "", api.ErrArg)
			checkHave(t, "P13.3", m, l, haveOf(m, l))
		}
	}
	checkHave(t, "P13.3", api.Meta{Size: -1, Mode: -1, Chunks: []int{-1, sumA, mostNumber + 1, sumB}}, []string{"b", "a"}, []int{1, 3})
	checkHave(t, "P13.3", api.Meta{Chunks: []int{1<<32 + sumA, sumA - 1<<32, -sumA}}, []string{"a"}, nil)
	checkHave(t, "P13.3", api.Meta{Chunks: append(make([]int, 16), sumA)}, []string{"a"}, []int{16})
}

func TestEdgesOfAMeta(t *testing.T) {
	long := strings.Repeat("x", 1<<20)
	for _, mode := range []int{0, 1, mostMode} {
		checkWhole(t, "P13.3", api.Meta{Size: 1, Mode: mode, Chunks: []int{sumA}}, []string{"a"}, "a", api.OK)
	}
	// Such Chunks may be, but no text of the row has that Sum.
	for _, c := range []int{0, 1, mostNumber - 1, mostNumber} {
		checkWhole(t, "P13.3", api.Meta{Size: 1, Chunks: []int{c}}, []string{"a"}, "", api.ErrNone)
	}
	checkWhole(t, "P13.3", api.Meta{Size: 4, Chunks: []int{mostNumber}}, []string{"a", "\xff\xff\xff\xff"}, "\xff\xff\xff\xff", api.OK)
	// A row's texts may be longer than a chunk that is cut.
	sixteen := slices.Repeat([]int{sumOf(long)}, 16)
	checkWhole(t, "P13.3", api.Meta{Size: 16 << 20, Chunks: sixteen}, []string{"a", long}, strings.Repeat(long, 16), api.OK)
	for _, size := range []int{0, 1, 1 << 20, 15 << 20, 16<<20 - 1, 16<<20 + 1, mostSize} {
		checkWhole(t, "P13.3", api.Meta{Size: size, Chunks: sixteen}, []string{"a", long}, "", api.ErrNone)
	}
	checkWhole(t, "P13.3", api.Meta{Size: 4001, Chunks: []int{sumOf(long[:4001])}}, []string{long[:4000], long[:4001]}, long[:4001], api.OK)
}

func TestSizesBesideTheChunksBytes(t *testing.T) {
	for _, n := range []int{1, 2, 16, 4000} {
		for _, s := range textsFor(n) {
			m, l, e := describedOf(s, n, 7)
			if e != api.OK {
				continue
			}
			for _, size := range []int{m.Size - 2, m.Size - 1, m.Size, m.Size + 1, m.Size + 2, m.Size + n} {
				checkRow(t, api.Meta{Size: size, Mode: 7, Chunks: m.Chunks}, l)
			}
		}
	}
}

// Each Chunk of a row in turn is the only one that is there, or the only one that is not.
func TestEachPlaceAlone(t *testing.T) {
	for n := 1; n <= mostChunks; n++ {
		s := noise(3 * n)
		m, l, _ := describedOf(s, 3, 7)
		checkHave(t, "P13.3", m, l, everyPlace(n))
		checkHave(t, "P13.3", m, nil, nil)
		for i := range n {
			checkHave(t, "P13.3", m, l[i:i+1], []int{i})
			checkHave(t, "P13.3", m, []string{"x", l[i], "", l[i]}, []int{i})
			others := without(l, i)
			checkHave(t, "P13.3", m, others, slices.Delete(everyPlace(n), i, i+1))
			checkWhole(t, "P13.3", m, others, "", api.ErrNone)
			checkWhole(t, "P13.3", m, append(others, "x", ""), "", api.ErrNone)
			checkWhole(t, "P13.3", m, append(others, l[i]), s, api.OK)
			checkWhole(t, "P13.3", m, append([]string{"x", l[i], ""}, others...), s, api.OK)
		}
	}
}

func everyPlace(n int) []int {
	var l []int
	for i := range n {
		l = append(l, i)
	}
	return l
}

// without is l but for the one at i.
func without(l []string, i int) []string { return slices.Delete(slices.Clone(l), i, i+1) }

// everyRow calls f with every row of at most so many of these, once each.
func everyRow[T any](of []T, most int, f func(l []T)) {
	f(nil)
	if most == 0 {
		return
	}
	for _, x := range of {
		everyRow(of, most-1, func(l []T) { f(append(slices.Clone(l), x)) })
	}
}

// All short rows of texts, some of one Sum, against all short rows of Chunks, some of no text's.
func TestAllShortRows(t *testing.T) {
	texts := []string{"", zeroSum, "a", "ab", "plumless", "buckeroo"}
	everyRow([]int{0, sumA, sumAb, sumTwice, 7}, 3, func(chunks []int) {
		everyRow(texts, 3, func(l []string) {
			n := 0
			for _, c := range chunks {
				if i := placeOf(l, c); i >= 0 {
					n += len(l[i])
				}
			}
			for _, size := range []int{n - 1, n, n + 1} {
				if !t.Failed() {
					checkRow(t, api.Meta{Size: size, Mode: 7, Chunks: chunks}, l)
				}
			}
		})
	})
}

func TestTwoTextsOfOneSum(t *testing.T) {
	for _, n := range []int{4, 5, 100, 4000} {
		one := noise(n)
		for _, m := range []int{4, 5, n, n + 4, 4001} {
			// Of m bytes, with the Sum of one. (There is only one such text of four bytes.)
			two := forged(strings.Repeat("y", m-4), uint32(sumOf(one)))
			for _, x := range [][2]string{{one, two}, {two, one}} {
				meta := api.Meta{Size: len(x[0]), Chunks: []int{sumOf(x[0])}}
				checkWhole(t, "P13.3", meta, x[:], x[0], api.OK)
				checkWhole(t, "P13.3", meta, []string{"a", x[0], "b", x[1], x[0]}, x[0], api.OK)
				checkHave(t, "P13.3", meta, x[1:], []int{0})
				if len(one) != len(two) {
					checkWhole(t, "P13.3", meta, []string{x[1], x[0]}, "", api.ErrNone)
				} else {
					checkWhole(t, "P13.3", meta, []string{x[1], x[0]}, x[1], api.OK)
				}
			}
		}
	}
}

func TestWholeOfALongRow(t *testing.T) {
	s := noise(48)
	m, l, _ := describedOf(s, 3, 7)
	var others []string
	for n := range 1 << 15 {
		others = append(others, "other "+string([]byte{byte(n >> 8), byte(n)}))
	}
	row := slices.Concat(others[:100], l[8:], others[100:], l[:8])
	checkWhole(t, "P13.3", m, row, s, api.OK)
	checkHave(t, "P13.3", m, row, everyPlace(16))
	checkWhole(t, "P13.3", m, others, "", api.ErrNone)
	checkHave(t, "P13.3", m, others, nil)
}

// P13.4, for any text and n.

// orders are rows of the same texts, in other orders: all of them of few texts, and some of many.
func orders(l []string) [][]string {
	if len(l) > 5 {
		back := slices.Clone(l)
		slices.Reverse(back)
		rows := [][]string{l, back}
		for i := 1; i < len(l); i++ {
			rows = append(rows, slices.Concat(l[i:], l[:i]), slices.Concat(back[i:], back[:i]))
		}
		return rows
	}
	if len(l) == 0 {
		return [][]string{nil}
	}
	var rows [][]string
	for i := range l {
		for _, row := range orders(without(l, i)) {
			rows = append(rows, append([]string{l[i]}, row...))
		}
	}
	return rows
}

// twoOfOneSum tells whether there are any two unlike texts of one Sum.
func twoOfOneSum(l []string) bool {
	for i := range l {
		if l[placeOf(l, sumOf(l[i]))] != l[i] {
			return true
		}
	}
	return false
}

// checkFollows holds P13.4 by the program's calls alone.
func checkFollows(t *testing.T, s string, n, mode int) {
	t.Helper()
	l, e := chain.Cut(s, n)
	if e != api.OK {
		return
	}
	if strings.Join(l, "") != s {
		t.Errorf("P13.4: %q was cut by %d; put together: %q", short(s), n, short(strings.Join(l, "")))
	}
	m, l, e := chain.Describe(s, n, mode)
	if e != api.OK || twoOfOneSum(l) {
		return
	}
	others := []string{"an other", "", noise(n), strings.Repeat("x", n), s + "x", zeroSum}
	for _, sum := range m.Chunks {
		others = append(others, forged("an other", uint32(sum)))
	}
	for _, row := range orders(l) {
		checkWhole(t, "P13.4", m, row, s, api.OK)
		checkWhole(t, "P13.4", m, slices.Concat(row, others), s, api.OK)
		checkHave(t, "P13.4", m, row, everyPlace(len(l)))
	}
	for i := range l {
		rest := without(l, i)
		if slices.Contains(rest, l[i]) {
			checkWhole(t, "P13.4", m, rest, s, api.OK)
			continue
		}
		for _, row := range orders(rest) {
			checkWhole(t, "P13.4", m, row, "", api.ErrNone)
		}
	}
}

func TestWhatIsDescribedIsWhole(t *testing.T) {
	for _, n := range []int{1, 2, 7, 256, 4000} {
		for _, s := range textsFor(n) {
			checkFollows(t, s, n, 7)
		}
	}
	for _, s := range []string{"a", "abcde", "abab", "ababc", "abcab", "abcabc", "cabab", "aaaa", "aabba", "\x00\x00\x00", zeroSum, zeroSum + zeroSum, "é"} {
		for n := range 6 {
			checkFollows(t, s, n, mostMode)
		}
	}
}

// Where two of one Sum are among the chunks, the first one stands for both.
func TestDescribedWithTwoOfOneSum(t *testing.T) {
	m, l, e := chain.Describe("plumlessbuckeroo", 8, 7)
	if e != api.OK || len(l) != 2 {
		t.Fatalf("P13.2: %q, %d", l, e)
	}
	checkWhole(t, "P13.4", m, l, "plumlessplumless", api.OK)
	checkWhole(t, "P13.4", m, []string{l[1], l[0]}, "buckeroobuckeroo", api.OK)
	checkWhole(t, "P13.4", m, l[1:], "buckeroobuckeroo", api.OK)
	// Of unlike lengths, as the last one may be, they make another Size.
	s := "plumless" + forged("", sumTwice)
	m, l, e = chain.Describe(s, 8, 7)
	if e != api.OK || len(l) != 2 || m.Chunks[0] != m.Chunks[1] {
		t.Fatalf("P13.2: %+v, %q, %d", m, l, e)
	}
	checkWhole(t, "P13.4", m, l, "", api.ErrNone)
	checkHave(t, "P13.4", m, l[:1], []int{0, 1})
}

func TestWhatIsToldBesidesAnErrorIsZero(t *testing.T) {
	for _, x := range []struct {
		s       string
		n, mode int
	}{{"abcde", 0, 7}, {"abcde", -1, 7}, {"abcde", 4001, 7}, {"0123456789abcdefg", 1, 7}, {"0123456789abcdefg", 1, -1}, {"abcde", 2, -1}, {"abcde", 2, 4096}, {noise(64001), 4000, 7}, {noise(64000), 4000, 4096}} {
		if m, l, e := chain.Describe(x.s, x.n, x.mode); m.Size != 0 || m.Mode != 0 || len(m.Chunks) != 0 || len(l) != 0 || e == api.OK {
			t.Errorf("R1: Describe(%q, %d, %d): %+v, %q, %d", short(x.s), x.n, x.mode, m, shorts(l), e)
		}
		if l, e := chain.Cut(x.s, x.n); e != api.OK && len(l) != 0 {
			t.Errorf("R1: Cut(%q, %d): %q, %d", short(x.s), x.n, shorts(l), e)
		}
	}
	for _, x := range wholes {
		if s, e := chain.Whole(x.m, x.l); e != api.OK && s != "" {
			t.Errorf("R1: Whole(%+v, %q): %q, %d", x.m, x.l, s, e)
		}
	}
}

// The rows have room behind their last one, which is nobody's to write to.
func TestWhatCameInIsAsItWas(t *testing.T) {
	metas := noMetas()
	for _, x := range wholes {
		metas = append(metas, x.m)
	}
	for _, m := range metas {
		for _, x := range wholes {
			chunks := append(slices.Clone(m.Chunks), 11, 12, 13)
			row := append(slices.Clone(x.l), "p", "q", "r")
			wasChunks, wasRow := slices.Clone(chunks), slices.Clone(row)
			m.Chunks = chunks[:len(m.Chunks)]
			l := row[:len(x.l)]
			chain.Sums(l)
			chain.Whole(m, l)
			chain.Have(m, l)
			if !slices.Equal(chunks, wasChunks) || !slices.Equal(row, wasRow) {
				t.Fatalf("R2: %v, %q were given; now they are %v, %q", brief(api.Meta{Chunks: wasChunks}), wasRow, brief(api.Meta{Chunks: chunks}), row)
			}
		}
	}
}

func TestArgumentsPlayNoPartInLaterCalls(t *testing.T) {
	for _, x := range wholes {
		m := api.Meta{Size: x.m.Size, Mode: x.m.Mode, Chunks: slices.Clone(x.m.Chunks)}
		l := slices.Clone(x.l)
		s, _ := chain.Whole(m, l)
		have := chain.Have(m, l)
		sums := chain.Sums(l)
		overwrite(m.Chunks, 77)
		overwrite(l, "overwritten")
		if s != x.want || !slices.Equal(have, x.have) || !slices.Equal(sums, sumsOf(x.l)) {
			t.Errorf("R2: answers changed with what was given: %q, %v, %v", s, have, sums)
		}
		checkWhole(t, "R2", x.m, x.l, x.want, x.e)
		checkHave(t, "R2", x.m, x.l, x.have)
	}
}

// overwrite goes up to the room behind the last one: no two rows share that either.
func overwrite[T any](l []T, with T) {
	l = l[:cap(l)]
	for i := range l {
		l[i] = with
	}
}

func TestAnswersPlayNoPartInLaterCalls(t *testing.T) {
	for _, s := range []string{"", "a", "abcde", "abab", "0123456789abcdef"} {
		for n := 1; n < 6; n++ {
			m, l, e := describedOf(s, n, 7)
			for range 3 {
				checkCut(t, s, n, l, e)
				checkSums(t, l, sumsOf(l))
				checkDescribe(t, s, n, 7, m, l, e)
				checkRow(t, m, l)
				cut, _ := chain.Cut(s, n)
				told, row, _ := chain.Describe(s, n, 7)
				overwrite(cut, "overwritten")
				overwrite(told.Chunks, 77)
				overwrite(row, "overwritten")
				overwrite(chain.Sums(l), 77)
				overwrite(chain.Have(m, l), 77)
			}
		}
	}
}

func TestAnswersShareNoMemory(t *testing.T) {
	for _, s := range []string{"a", "abcde", "abab", "0123456789abcdef"} {
		m, l, e := describedOf(s, 2, 7)
		if e != api.OK {
			t.Fatal(e)
		}
		cut, _ := chain.Cut(s, 2)
		one, oneRow, _ := chain.Describe(s, 2, 7)
		two, twoRow, _ := chain.Describe(s, 2, 7)
		numbers := [][]int{one.Chunks, two.Chunks, chain.Sums(l), chain.Sums(l)}
		places := [][]int{chain.Have(m, l), chain.Have(m, l)}
		rows := [][]string{cut, oneRow, twoRow}
		checkApart(t, numbers, m.Chunks, 77)
		checkApart(t, places, everyPlace(len(l)), 77)
		checkApart(t, rows, l, "overwritten")
		// Describe's row and Chunks, the one written over ahead of the other.
		last, lastRow, _ := chain.Describe(s, 2, 7)
		overwrite(last.Chunks, 77)
		checkApart(t, [][]string{lastRow}, l, "overwritten")
	}
}

// checkApart holds that each of these is what it was when those ahead of it were written over.
func checkApart[T comparable](t *testing.T, lists [][]T, want []T, with T) {
	t.Helper()
	for _, l := range lists {
		if !slices.Equal(l, want) {
			t.Errorf("R2: an answer changed with another: %v; want %v", l, want)
		}
		overwrite(l, with)
	}
}

func FuzzCut(f *testing.F) {
	for _, x := range cuts {
		f.Add(x.s, x.n, 7)
	}
	f.Add("abc", 2, 4096)
	f.Add("0123456789abcdefg", 1, -1)
	f.Add("plumlessbuckeroo", 8, mostMode)
	f.Add(zeroSum+zeroSum, 4, 0)
	f.Fuzz(func(t *testing.T, s string, n, mode int) {
		checkText(t, s, n, mode)
		checkFollows(t, s, n, mode)
	})
}

// FuzzWhole cuts texts at each `|` into a row. Each byte of picks is a Chunk: of a text of the row, or another number.
func FuzzWhole(f *testing.F) {
	f.Add(4, 7, "\x00\x00", "ab|c")
	f.Add(5, 7, "\x02\x01\x00", "e|cd|ab")
	f.Add(16, 7, "\x00\x01", "plumless|buckeroo")
	f.Add(0, 7, "\x00", "||"+zeroSum)
	f.Add(3, 4096, "\x00\x01\x02", "a|b|c")
	f.Add(17, 0, strings.Repeat("\x00", 17), "a")
	f.Add(2, 0, "\x00\xff", "a|b")
	f.Fuzz(func(t *testing.T, size, mode int, picks, texts string) {
		l := strings.Split(texts, "|")
		m := api.Meta{Size: size, Mode: mode}
		whole := 0
		for i := range len(picks) {
			if n := int(picks[i]); n < 240 {
				m.Chunks = append(m.Chunks, sumOf(l[n%len(l)]))
				whole += len(l[placeOf(l, m.Chunks[i])])
			} else {
				m.Chunks = append(m.Chunks, wrongNumbers()[n%len(wrongNumbers())])
			}
		}
		checkRow(t, m, l)
		m.Size = whole
		checkRow(t, m, l)
	})
}
