package meta_test

import (
	"encoding/binary"
	"math"
	"slices"
	"strings"
	"testing"

	"sexton/api"
	"sexton/meta"
)

const (
	mostSize   = 1000000000
	mostMode   = 4095
	mostChunks = 16
	mostChunk  = 4294967295
)

// known are written out by hand: no call of the program made their bytes.
var known = []struct {
	m     api.Meta
	bytes string
}{
	{api.Meta{}, "\x00\x00\x00"},
	{api.Meta{Chunks: []int{}}, "\x00\x00\x00"},
	{api.Meta{Size: 300, Mode: 7, Chunks: []int{5}}, "\x02\x01\x2c\x01\x07\x01\x01\x01\x05"},
	{api.Meta{Size: 1}, "\x01\x01\x00\x00"},
	{api.Meta{Mode: 1}, "\x00\x01\x01\x00"},
	{api.Meta{Chunks: []int{0}}, "\x00\x00\x01\x01\x00"},
	{api.Meta{Chunks: []int{1}}, "\x00\x00\x01\x01\x01\x01"},
	{api.Meta{Size: 1, Mode: 2, Chunks: []int{3, 4}}, "\x01\x01\x01\x02\x01\x02\x01\x03\x01\x04"},
	{api.Meta{Size: 255, Mode: 256, Chunks: []int{65535, 65536}}, "\x01\xff\x02\x01\x00\x01\x02\x02\xff\xff\x03\x01\x00\x00"},
	{api.Meta{Size: mostSize, Mode: mostMode, Chunks: []int{0, mostChunk}}, "\x04\x3b\x9a\xca\x00\x02\x0f\xff\x01\x02\x00\x04\xff\xff\xff\xff"},
	{api.Meta{Size: mostSize - 1, Mode: mostMode - 1, Chunks: []int{mostChunk - 1, 0, 0}}, "\x04\x3b\x9a\xc9\xff\x02\x0f\xfe\x01\x03\x04\xff\xff\xff\xfe\x00\x00"},
	{api.Meta{Size: 16777216, Mode: 420, Chunks: []int{3421780262, 3421780262, 3421780262}}, "\x04\x01\x00\x00\x00\x02\x01\xa4\x01\x03\x04\xcb\xf4\x39\x26\x04\xcb\xf4\x39\x26\x04\xcb\xf4\x39\x26"},
	{api.Meta{Size: 9, Mode: 9, Chunks: make([]int, 16)}, "\x01\x09\x01\x09\x01\x10" + strings.Repeat("\x00", 16)},
	{api.Meta{Chunks: slices.Repeat([]int{mostChunk}, 16)}, "\x00\x00\x01\x10" + strings.Repeat("\x04\xff\xff\xff\xff", 16)},
	{api.Meta{Chunks: []int{1, 2, 3, 4, 5, 6, 7, 8, 9, 10, 11, 12, 13, 14, 15}}, "\x00\x00\x01\x0f\x01\x01\x01\x02\x01\x03\x01\x04\x01\x05\x01\x06\x01\x07\x01\x08\x01\x09\x01\x0a\x01\x0b\x01\x0c\x01\x0d\x01\x0e\x01\x0f"},
}

// wrongNumbers may be neither a Size nor a Mode nor a Chunk; some wrap round to one that may be where fewer bits hold them.
func wrongNumbers() []int {
	return []int{
		-1, -2, -256, -mostMode, -mostSize, -mostChunk, -mostChunk - 1, -1<<32 + 5, -1 << 62, math.MinInt + 1, math.MinInt,
		mostChunk + 1, 1<<32 + 1, 1<<32 + 5, 1<<32 + mostMode, 1<<32 + mostSize, 1 << 33, 1 << 40, 1 << 62, math.MaxInt - 1, math.MaxInt,
	}
}

// sizes, modes and chunks are such as may be: their edges, and those where one byte more begins.
func sizes() []int {
	return []int{0, 1, 2, 255, 256, 300, 4095, 4096, 65535, 65536, 16777215, 16777216, mostSize - 1, mostSize}
}

func modes() []int { return []int{0, 1, 7, 255, 256, 420, 493, mostMode - 1, mostMode} }

func chunks() []int {
	return []int{0, 1, 5, 255, 256, 65535, 65536, 16777215, 16777216, mostSize + 1, 1 << 31, 1<<31 - 1, mostChunk - 1, mostChunk}
}

// rows are Chunks that may be: of each length, all alike, all unlike, and no two neighbours of one width.
func rows() [][]int {
	l := [][]int{nil, {}}
	for _, c := range chunks() {
		for n := 1; n <= mostChunks; n++ {
			l = append(l, slices.Repeat([]int{c}, n))
		}
	}
	mixed := append(chunks(), 3421780262, 4294901760)
	for n := 1; n <= mostChunks; n++ {
		l = append(l, slices.Clone(mixed[:n]), slices.Clone(mixed[mostChunks-n:]))
	}
	return l
}

// metas may be, all of them.
func metas() []api.Meta {
	var l []api.Meta
	for _, size := range sizes() {
		for _, mode := range modes() {
			for _, row := range [][]int{nil, {0}, {5}, {mostChunk, 0}} {
				l = append(l, api.Meta{Size: size, Mode: mode, Chunks: row})
			}
		}
	}
	for _, row := range rows() {
		l = append(l, api.Meta{Chunks: row}, api.Meta{Size: 300, Mode: 7, Chunks: row})
	}
	for _, x := range known {
		l = append(l, x.m)
	}
	return l
}

// noMetas may not be, none of them.
func noMetas() []api.Meta {
	l := []api.Meta{
		{Size: mostSize + 1}, {Size: mostChunk}, {Size: -1, Mode: -1, Chunks: []int{-1}}, {Mode: mostMode + 1}, {Mode: mostMode * 2}, {Mode: mostSize}, {Mode: mostChunk},
		{Size: mostSize + 1, Mode: mostMode, Chunks: []int{5}}, {Size: 300, Mode: mostMode + 1, Chunks: []int{5}},
		{Chunks: make([]int, 17)}, {Chunks: slices.Repeat([]int{5}, 18)}, {Size: 300, Mode: 7, Chunks: make([]int, 256)}, {Chunks: make([]int, 65536+1)}, {Chunks: make([]int, 1<<20)},
	}
	for _, n := range wrongNumbers() {
		l = append(l, api.Meta{Size: n}, api.Meta{Size: n, Mode: 7, Chunks: []int{5}}, api.Meta{Mode: n}, api.Meta{Size: 300, Mode: n, Chunks: []int{5}})
		// At each place of rows of some lengths: so as the first, a middle and the last one.
		for _, most := range []int{1, 2, 3, 15, 16} {
			for i := range most {
				row := slices.Repeat([]int{5}, most)
				row[i] = n
				l = append(l, api.Meta{Size: 300, Mode: 7, Chunks: row})
			}
		}
	}
	return l
}

// same takes no Chunks for the same, nil or not.
func same(a, b api.Meta) bool {
	return a.Size == b.Size && a.Mode == b.Mode && slices.Equal(a.Chunks, b.Chunks)
}

func clone(m api.Meta) api.Meta {
	m.Chunks = slices.Clone(m.Chunks)
	return m
}

// bytesOf is numbers' bytes by the library's means: no call of the program makes them.
func bytesOf(l ...int) string {
	s := ""
	for _, n := range l {
		digits := strings.TrimLeft(string(binary.BigEndian.AppendUint32(nil, uint32(n))), "\x00")
		s += string([]byte{byte(len(digits))}) + digits
	}
	return s
}

func metaBytes(m api.Meta) string {
	return bytesOf(append([]int{m.Size, m.Mode, len(m.Chunks)}, m.Chunks...)...)
}

// numbersOf is the numbers that s is cut into from its first byte to its last one; false, if it can't be.
func numbersOf(s string) (l []int, ok bool) {
	for s != "" {
		end := 1 + int(s[0])
		if end > 5 || end > len(s) || end > 1 && s[1] == 0 {
			return nil, false
		}
		four := append(make([]byte, 5-end), s[1:end]...)
		l = append(l, int(binary.BigEndian.Uint32(four)))
		s = s[end:]
	}
	return l, true
}

// metaOf is the meta whose bytes s is, found by cutting all of it ahead of asking what the numbers are; false, if there is none.
func metaOf(s string) (api.Meta, bool) {
	l, ok := numbersOf(s)
	if !ok || len(l) < 3 || l[0] > mostSize || l[1] > mostMode || l[2] > mostChunks || l[2] != len(l)-3 {
		return api.Meta{}, false
	}
	return api.Meta{Size: l[0], Mode: l[1], Chunks: l[3:]}, true
}

// everyText calls f with every text of at most so many of these letters, once each.
func everyText(letters string, most int, f func(s string)) {
	f("")
	if most == 0 {
		return
	}
	for i := range len(letters) {
		everyText(letters, most-1, func(s string) { f(s + letters[i:i+1]) })
	}
}

// short cuts a long text so that a failure can be read.
func short(s string) string {
	if len(s) > 40 {
		return s[:40] + ".."
	}
	return s
}

// brief is a meta with so few Chunks that a failure can be read.
func brief(m api.Meta) api.Meta {
	m.Chunks = m.Chunks[:min(len(m.Chunks), mostChunks+1)]
	return m
}

func checkIs(t *testing.T, m api.Meta, want bool) {
	t.Helper()
	if meta.Is(m) != want {
		t.Errorf("P12.1: Is(%+v): %v", brief(m), !want)
	}
}

func checkPut(t *testing.T, m api.Meta, want string, wantErr api.Errno) {
	t.Helper()
	if s, e := meta.Put(m); s != want || e != wantErr {
		t.Errorf("P12.1: Put(%+v): %q, %d; want %q, %d", brief(m), s, e, want, wantErr)
	}
}

func checkGet(t *testing.T, s string, want api.Meta, wantErr api.Errno) {
	t.Helper()
	if m, e := meta.Get(s); !same(m, want) || e != wantErr {
		t.Errorf("P12.1: Get(%q): %+v, %d; want %+v, %d", short(s), m, e, want, wantErr)
	}
}

func checkValue(t *testing.T, m api.Meta, gone bool, want string, wantErr api.Errno) {
	t.Helper()
	if s, e := meta.Value(m, gone); s != want || e != wantErr {
		t.Errorf("P12.2: Value(%+v, %v): %q, %d; want %q, %d", brief(m), gone, s, e, want, wantErr)
	}
}

func checkRead(t *testing.T, s string, want api.Meta, wantGone bool, wantErr api.Errno) {
	t.Helper()
	if m, gone, e := meta.Read(s); !same(m, want) || gone != wantGone || e != wantErr {
		t.Errorf("P12.2: Read(%q): %+v, %v, %d; want %+v, %v, %d", short(s), m, gone, e, want, wantGone, wantErr)
	}
}

// checkMayBe holds every call against m and its bytes.
func checkMayBe(t *testing.T, m api.Meta, bytes string) {
	t.Helper()
	checkIs(t, m, true)
	checkPut(t, m, bytes, api.OK)
	checkGet(t, bytes, m, api.OK)
	checkValue(t, m, false, "\x01"+bytes, api.OK)
	checkValue(t, m, true, "\x00", api.OK)
	checkRead(t, "\x01"+bytes, m, false, api.OK)
}

// checkMayNotBe holds every call that takes a meta against one that may not be.
func checkMayNotBe(t *testing.T, m api.Meta) {
	t.Helper()
	checkIs(t, m, false)
	checkPut(t, m, "", api.ErrArg)
	checkValue(t, m, false, "", api.ErrArg)
	checkValue(t, m, true, "\x00", api.OK)
}

// checkNoBytes holds Get against what is no meta's bytes, and Read against them behind a byte 1.
func checkNoBytes(t *testing.T, s string) {
	t.Helper()
	checkGet(t, s, api.Meta{}, api.ErrFrame)
	checkNoValue(t, "\x01"+s)
}

func checkNoValue(t *testing.T, s string) {
	t.Helper()
	checkRead(t, s, api.Meta{}, false, api.ErrFrame)
}

// checkAnyText holds Get against what metaOf finds, and Read, whatever s is.
func checkAnyText(t *testing.T, s string) {
	t.Helper()
	m, ok := metaOf(s)
	if !ok {
		checkNoBytes(t, s)
	} else {
		checkMayBe(t, m, s)
	}
	// s as what Read is given: behind its first byte must be a meta's bytes.
	switch m, ok := metaOf(strings.TrimPrefix(s, "\x01")); {
	case s == "\x00":
		checkRead(t, s, api.Meta{}, true, api.OK)
	case ok && strings.HasPrefix(s, "\x01"):
		checkRead(t, s, m, false, api.OK)
	default:
		checkNoValue(t, s)
	}
}

func TestKnownMetas(t *testing.T) {
	for _, x := range known {
		checkMayBe(t, x.m, x.bytes)
	}
}

func TestMetasThatMayBe(t *testing.T) {
	for _, m := range metas() {
		checkMayBe(t, m, metaBytes(m))
	}
}

func TestMetasThatMayNotBe(t *testing.T) {
	for _, m := range noMetas() {
		checkMayNotBe(t, m)
	}
}

func TestEdgesOfSize(t *testing.T) {
	for _, row := range [][]int{nil, {5}} {
		checkMayNotBe(t, api.Meta{Size: -1, Mode: 7, Chunks: row})
		checkMayBe(t, api.Meta{Size: 0, Mode: 7, Chunks: row}, "\x00\x01\x07"+bytesOf(len(row))+bytesOf(row...))
		checkMayBe(t, api.Meta{Size: mostSize, Mode: 7, Chunks: row}, "\x04\x3b\x9a\xca\x00\x01\x07"+bytesOf(len(row))+bytesOf(row...))
		checkMayNotBe(t, api.Meta{Size: mostSize + 1, Mode: 7, Chunks: row})
	}
}

func TestEdgesOfMode(t *testing.T) {
	for _, row := range [][]int{nil, {5}} {
		checkMayNotBe(t, api.Meta{Size: 1, Mode: -1, Chunks: row})
		checkMayBe(t, api.Meta{Size: 1, Mode: 0, Chunks: row}, "\x01\x01\x00"+bytesOf(len(row))+bytesOf(row...))
		checkMayBe(t, api.Meta{Size: 1, Mode: mostMode, Chunks: row}, "\x01\x01\x02\x0f\xff"+bytesOf(len(row))+bytesOf(row...))
		checkMayNotBe(t, api.Meta{Size: 1, Mode: mostMode + 1, Chunks: row})
	}
	// All of them, so that no bit of a Mode is lost.
	for mode := range mostMode + 1 {
		m := api.Meta{Size: 1, Mode: mode, Chunks: []int{5}}
		checkMayBe(t, m, metaBytes(m))
	}
}

func TestEdgesOfHowManyChunks(t *testing.T) {
	checkMayBe(t, api.Meta{Size: 1, Mode: 2}, "\x01\x01\x01\x02\x00")
	checkMayBe(t, api.Meta{Size: 1, Mode: 2, Chunks: []int{}}, "\x01\x01\x01\x02\x00")
	checkMayBe(t, api.Meta{Size: 1, Mode: 2, Chunks: []int{3}}, "\x01\x01\x01\x02\x01\x01\x01\x03")
	for _, c := range chunks() {
		sixteen := slices.Repeat([]int{c}, 16)
		checkMayBe(t, api.Meta{Size: 1, Mode: 2, Chunks: sixteen}, "\x01\x01\x01\x02\x01\x10"+strings.Repeat(bytesOf(c), 16))
		checkMayNotBe(t, api.Meta{Size: 1, Mode: 2, Chunks: append(sixteen, c)})
	}
}

func TestEdgesOfAChunk(t *testing.T) {
	for n := 1; n <= mostChunks; n++ {
		for i := range n {
			row := slices.Repeat([]int{5}, n)
			head, tail := "\x00\x00"+bytesOf(n)+strings.Repeat("\x01\x05", i), strings.Repeat("\x01\x05", n-1-i)
			row[i] = -1
			checkMayNotBe(t, api.Meta{Chunks: row})
			row[i] = 0
			checkMayBe(t, api.Meta{Chunks: row}, head+"\x00"+tail)
			row[i] = mostChunk
			checkMayBe(t, api.Meta{Chunks: row}, head+"\x04\xff\xff\xff\xff"+tail)
			row[i] = mostChunk + 1
			checkMayNotBe(t, api.Meta{Chunks: row})
		}
	}
}

// The row itself can't be told apart where it has no Chunks: nil and one that is not nil have the same bytes.
func TestNoChunksAreGotAsNone(t *testing.T) {
	for _, s := range []string{"\x00\x00\x00", "\x02\x01\x2c\x01\x07\x00"} {
		if m, e := meta.Get(s); len(m.Chunks) != 0 || e != api.OK {
			t.Errorf("P12.1: Get(%q): %+v, %d", s, m, e)
		}
	}
}

func TestGetOfNoText(t *testing.T) {
	checkGet(t, "", api.Meta{}, api.ErrFrame)
	checkNoValue(t, "")
	checkNoValue(t, "\x01")
}

func TestGetOfCutAndLongerTexts(t *testing.T) {
	for _, m := range metas() {
		s := metaBytes(m)
		for i := range len(s) {
			checkNoBytes(t, s[:i])
		}
		for _, more := range []string{"\x00", "\x01", "\x01\x05", "\x05", "\xff", "a", "\x00\x00\x00", s, "\x01" + s} {
			checkNoBytes(t, s+more)
		}
	}
}

// wrongForms are what chapter 1 takes for no number: more bytes than there may be, a first one that is 0, and fewer than are told.
var wrongForms = []string{
	"\x01\x00", "\x02\x00\x00", "\x02\x00\x01", "\x02\x00\xff", "\x03\x00\x01\x00", "\x03\x00\x00\x01", "\x04\x00\x00\x00\x00", "\x04\x00\x00\x00\x05", "\x04\x00\xff\xff\xff",
	"\x05\x01\x00\x00\x00\x00", "\x05\x00\x00\x00\x00\x05", "\x06\x01\x01\x01\x01\x01\x01", "\x08\x00\x00\x00\x00\x00\x00\x00\x05", "\x80", "\xff", "\xff\x00\x00\x00\x00",
}

func TestGetOfNumbersInWrongForms(t *testing.T) {
	for _, wrong := range wrongForms {
		for _, x := range [][]string{
			{wrong, "\x00", "\x00"},
			{wrong, "\x01\x07", "\x01\x01", "\x01\x05"},
			{"\x00", wrong, "\x00"},
			{"\x01\x09", wrong, "\x01\x01", "\x01\x05"},
			{"\x00", "\x00", wrong},
			{"\x01\x09", "\x01\x07", wrong, "\x01\x05"},
			{"\x00", "\x00", "\x01\x01", wrong},
			{"\x01\x09", "\x01\x07", "\x01\x03", wrong, "\x01\x05", "\x01\x06"},
			{"\x01\x09", "\x01\x07", "\x01\x03", "\x01\x05", wrong, "\x01\x06"},
			{"\x01\x09", "\x01\x07", "\x01\x03", "\x01\x05", "\x01\x06", wrong},
		} {
			checkNoBytes(t, strings.Join(x, ""))
		}
	}
	// A number's last bytes are missing: at each place a text can end.
	for _, cut := range []string{"\x01", "\x02\x01", "\x03\x01\x00", "\x04\x01\x00\x00", "\x04"} {
		for _, head := range []string{"", "\x00", "\x00\x00", "\x00\x00\x01\x01", "\x00\x00\x01\x02\x01\x05"} {
			checkNoBytes(t, head+cut)
		}
	}
}

func TestGetOfASizeOrModeThatMayNotBe(t *testing.T) {
	for _, n := range []int{mostSize + 1, mostSize + 2, 1 << 30, 1 << 31, mostChunk - 1, mostChunk} {
		for _, row := range [][]int{nil, {5}, make([]int, 16)} {
			checkNoBytes(t, bytesOf(n, 7, len(row))+bytesOf(row...))
		}
	}
	for _, n := range []int{mostMode + 1, mostMode + 2, 8191, 65535, 65536, mostSize, mostChunk} {
		for _, row := range [][]int{nil, {5}, make([]int, 16)} {
			checkNoBytes(t, bytesOf(300, n, len(row))+bytesOf(row...))
		}
	}
}

// A count that may not be is refused with as many Chunks behind it as it counts, too.
func TestGetOfACountThatMayNotBe(t *testing.T) {
	for _, n := range []int{17, 18, 255, 256, 4000, 65536} {
		for _, c := range []int{0, 5, mostChunk} {
			checkNoBytes(t, bytesOf(300, 7, n)+strings.Repeat(bytesOf(c), n))
			checkNoBytes(t, bytesOf(300, 7, n)+strings.Repeat(bytesOf(c), 16))
			checkNoBytes(t, bytesOf(300, 7, n)+bytesOf(c))
		}
		checkNoBytes(t, bytesOf(300, 7, n))
	}
	for _, n := range []int{1 << 24, 1 << 31, mostChunk - 1, mostChunk, 1<<24 + 1} {
		checkNoBytes(t, bytesOf(300, 7, n))
		checkNoBytes(t, bytesOf(300, 7, n, 5))
		checkNoBytes(t, bytesOf(300, 7, n)+strings.Repeat("\x00", 1<<20))
	}
}

func TestGetOfFewerOrMoreChunksThanAreCounted(t *testing.T) {
	for counted := range mostChunks + 1 {
		for there := range mostChunks + 3 {
			for _, c := range []int{0, 5, 256, mostChunk} {
				row := slices.Repeat([]int{c}, there)
				s := bytesOf(300, 7, counted) + bytesOf(row...)
				if counted == there {
					checkGet(t, s, api.Meta{Size: 300, Mode: 7, Chunks: row}, api.OK)
				} else {
					checkNoBytes(t, s)
				}
			}
		}
	}
}

// A Chunk's bytes say no number below 0 and none above 4294967295: a fifth byte is chapter 1's to refuse.
func TestGetOfAChunkThatMayNotBe(t *testing.T) {
	for n := 1; n <= mostChunks; n++ {
		for i := range n {
			head, tail := "\x00\x00"+bytesOf(n)+strings.Repeat("\x01\x05", i), strings.Repeat("\x01\x05", n-1-i)
			for _, wrong := range append([]string{"\x05\x01\x00\x00\x00\x00", "\x08\xff\xff\xff\xff\xff\xff\xff\xff"}, wrongForms...) {
				checkNoBytes(t, head+wrong+tail)
			}
		}
	}
}

func TestGetOfLongTexts(t *testing.T) {
	for _, s := range []string{"\x00", "\x01", "\x01\x05", "\x04\xff\xff\xff\xff", "\xff", "a"} {
		checkNoBytes(t, strings.Repeat(s, 1<<18))
	}
}

func TestValueOfGone(t *testing.T) {
	for _, m := range append(metas(), noMetas()...) {
		checkValue(t, m, true, "\x00", api.OK)
	}
	checkRead(t, "\x00", api.Meta{}, true, api.OK)
}

func TestReadOfWrongFirstBytes(t *testing.T) {
	for b := range 256 {
		first := string([]byte{byte(b)})
		if b != 0 {
			checkNoValue(t, first)
		}
		for _, x := range known {
			if b != 1 {
				checkNoValue(t, first+x.bytes)
			}
			// Read asks for the first byte, too: what stands behind it alone is no value's bytes.
			checkNoValue(t, first+"\x01"+x.bytes)
		}
	}
	for _, x := range known {
		checkNoValue(t, x.bytes)
	}
}

func TestReadOfAByte0WithBytesBehindIt(t *testing.T) {
	for b := range 256 {
		checkNoValue(t, "\x00"+string([]byte{byte(b)}))
	}
	for _, s := range []string{"\x00\x00", "\x00\x00\x00", "\x01", "\x01\x00\x00\x00", "gone"} {
		checkNoValue(t, "\x00"+s)
	}
	for _, m := range metas() {
		checkNoValue(t, "\x00"+metaBytes(m))
		checkNoValue(t, "\x00\x01"+metaBytes(m))
	}
}

func TestReadOfAByte1WithNoMetasBytes(t *testing.T) {
	for _, s := range []string{"", "\x00", "\x00\x00", "\x01", "\x00\x00\x00\x00", "\x00\x00\x01\x01", "\x00\x02\x10\x00\x00", "\x04\x3b\x9a\xca\x01\x00\x00", "\x01\x00\x00\x00", "\x01\x00\x00\x00\x00", "there"} {
		checkNoValue(t, "\x01"+s)
	}
	for _, x := range known {
		checkNoValue(t, "\x01\x01"+x.bytes)
		checkNoValue(t, "\x01"+x.bytes+"\x00")
		checkNoValue(t, "\x01"+x.bytes+"\x01")
	}
}

func TestWhatIsPutIsGot(t *testing.T) {
	for _, m := range metas() {
		s, e := meta.Put(m)
		got, f := meta.Get(s)
		if e != api.OK || f != api.OK || !same(got, m) {
			t.Errorf("P12.3: %+v was put: %q, %d; got: %+v, %d", m, s, e, got, f)
		}
		v, e := meta.Value(m, false)
		got, gone, f := meta.Read(v)
		if e != api.OK || f != api.OK || gone || !same(got, m) {
			t.Errorf("P12.3: the value of %+v: %q, %d; read: %+v, %v, %d", m, v, e, got, gone, f)
		}
	}
	for _, m := range append(metas(), noMetas()...) {
		v, e := meta.Value(m, true)
		if got, gone, f := meta.Read(v); e != api.OK || f != api.OK || !gone || !same(got, api.Meta{}) {
			t.Errorf("P12.3: the value of gone: %q, %d; read: %+v, %v, %d", v, e, got, gone, f)
		}
	}
}

// checkGotIsPut lays whatever is got of s, and whatever is read of it: that is s.
func checkGotIsPut(t *testing.T, s string) {
	t.Helper()
	if m, e := meta.Get(s); e == api.OK {
		if put, f := meta.Put(m); put != s || f != api.OK || !meta.Is(m) {
			t.Errorf("P12.3: of %q was got: %+v; put: %q, %d", short(s), m, short(put), f)
		}
	}
	if m, gone, e := meta.Read(s); e == api.OK {
		if v, f := meta.Value(m, gone); v != s || f != api.OK {
			t.Errorf("P12.3: of %q was read: %+v, %v; its value: %q, %d", short(s), m, gone, short(v), f)
		}
	}
}

func TestWhatIsGotIsPut(t *testing.T) {
	for _, m := range metas() {
		checkGotIsPut(t, metaBytes(m))
		checkGotIsPut(t, "\x01"+metaBytes(m))
	}
	checkGotIsPut(t, "\x00")
}

func TestAllShortTexts(t *testing.T) {
	everyText("\x00\x01\x02\x03\x10\xff", 7, func(s string) {
		if !t.Failed() {
			checkAnyText(t, s)
			checkGotIsPut(t, s)
		}
	})
}

// All texts that differ from a meta's bytes in one byte are another one's, or none's.
func TestChangedBytes(t *testing.T) {
	for _, x := range known {
		for _, s := range []string{x.bytes, "\x01" + x.bytes} {
			for i := range len(s) {
				for b := range 256 {
					checkAnyText(t, s[:i]+string([]byte{byte(b)})+s[i+1:])
				}
				checkAnyText(t, s[:i]+s[i+1:])
				checkAnyText(t, s[:i])
				checkAnyText(t, s[i:])
			}
		}
	}
}

// The values rise, so that each one that is the beginning of others stands just ahead of one of them.
func TestNoValueIsTheBeginningOfAnother(t *testing.T) {
	l := []string{"\x00"}
	for _, m := range metas() {
		v, e := meta.Value(m, false)
		if e != api.OK {
			t.Fatalf("P12.2: Value(%+v): error %d", m, e)
		}
		l = append(l, v)
	}
	everyText("\x00\x01\x02\x03\x10\xff", 7, func(s string) {
		if _, _, e := meta.Read(s); e == api.OK {
			l = append(l, s)
		}
	})
	slices.Sort(l)
	l = slices.Compact(l)
	for i := 1; i < len(l); i++ {
		if strings.HasPrefix(l[i], l[i-1]) {
			t.Errorf("P12.3: %q is the beginning of %q, and both are values", short(l[i-1]), short(l[i]))
		}
	}
	if len(l) < 1000 {
		t.Errorf("only %d values were held against each other", len(l))
	}
}

func TestWhatIsToldBesidesAnErrorIsZero(t *testing.T) {
	for _, m := range noMetas() {
		if s, e := meta.Put(m); s != "" || e == api.OK {
			t.Errorf("R1: Put(%+v): %q, %d", brief(m), s, e)
		}
		if s, e := meta.Value(m, false); s != "" || e == api.OK {
			t.Errorf("R1: Value(%+v): %q, %d", brief(m), s, e)
		}
	}
	// Each is refused late: at its last number, or behind it.
	for _, s := range []string{"\x02\x01\x2c\x01\x07\x01\x02\x01\x05", "\x02\x01\x2c\x01\x07\x01\x02\x01\x05\x01\x00", "\x02\x01\x2c\x01\x07\x01\x01\x01\x05\x00", "\x02\x01\x2c\x01\x07\x01\x11\x01\x05", "\x02\x01\x2c\x02\x10\x00\x00"} {
		if m, e := meta.Get(s); m.Size != 0 || m.Mode != 0 || len(m.Chunks) != 0 || e != api.ErrFrame {
			t.Errorf("R1: Get(%q): %+v, %d", s, m, e)
		}
		if m, gone, e := meta.Read("\x01" + s); m.Size != 0 || m.Mode != 0 || len(m.Chunks) != 0 || gone || e != api.ErrFrame {
			t.Errorf("R1: Read(%q): %+v, %v, %d", "\x01"+s, m, gone, e)
		}
	}
	if m, gone, e := meta.Read("\x00"); m.Size != 0 || m.Mode != 0 || len(m.Chunks) != 0 || !gone || e != api.OK {
		t.Errorf("P12.2: Read of gone: %+v, %v, %d", m, gone, e)
	}
}

// The row has room behind its last Chunk, which is nobody's to write to.
func TestWhatCameInIsAsItWas(t *testing.T) {
	for _, m := range append(metas(), noMetas()...) {
		room := append(slices.Clone(m.Chunks), 11, 12, 13)
		was := slices.Clone(room)
		given := api.Meta{Size: m.Size, Mode: m.Mode, Chunks: room[:len(m.Chunks)]}
		meta.Is(given)
		meta.Put(given)
		meta.Value(given, false)
		meta.Value(given, true)
		if !slices.Equal(room, was) {
			t.Errorf("R2: %+v was given; now the row is %v", brief(m), brief(given))
		}
	}
}

// What came in is not kept: its Chunks may be written over.
func TestArgumentsPlayNoPartInLaterCalls(t *testing.T) {
	for _, m := range metas() {
		given := clone(m)
		s, _ := meta.Put(given)
		v, _ := meta.Value(given, false)
		for i := range given.Chunks {
			given.Chunks[i] = 77
		}
		checkGet(t, s, m, api.OK)
		checkRead(t, v, m, false, api.OK)
		checkPut(t, m, s, api.OK)
		checkValue(t, m, false, v, api.OK)
	}
}

func TestAnswersPlayNoPartInLaterCalls(t *testing.T) {
	for _, m := range metas() {
		s := metaBytes(m)
		one, _ := meta.Get(s)
		two, _, _ := meta.Read("\x01" + s)
		for _, told := range []api.Meta{one, two} {
			// Up to the room behind the last Chunk: two answers must not share that either.
			for i := range cap(told.Chunks) {
				told.Chunks[:cap(told.Chunks)][i] = 77
			}
			checkGet(t, s, m, api.OK)
			checkRead(t, "\x01"+s, m, false, api.OK)
		}
	}
}

func TestAnswersShareNoMemory(t *testing.T) {
	for _, m := range metas() {
		s := metaBytes(m)
		one, _ := meta.Get(s)
		two, _ := meta.Get(s)
		three, _, _ := meta.Read("\x01" + s)
		four, _, _ := meta.Read("\x01" + s)
		told := []api.Meta{one, two, three, four}
		for i := range told {
			_ = append(told[i].Chunks, 77)
			for k := range told[i].Chunks {
				told[i].Chunks[k] = 77
			}
			for _, other := range told[i+1:] {
				if !same(other, m) {
					t.Errorf("R2: an answer changed with another: %+v; want %+v", other, m)
				}
			}
		}
	}
}

func FuzzGet(f *testing.F) {
	for _, x := range known {
		f.Add(x.bytes)
		f.Add("\x01" + x.bytes)
		f.Add(x.bytes + "\x00")
		f.Add(x.bytes[1:])
	}
	f.Fuzz(func(t *testing.T, s string) {
		checkAnyText(t, s)
		checkGotIsPut(t, s)
	})
}

// FuzzPut makes one Chunk of each eight bytes of row.
func FuzzPut(f *testing.F) {
	for _, x := range known {
		f.Add(x.m.Size, x.m.Mode, strings.Repeat("\x00\x00\x00\x00\xff\x01\x00\x05", len(x.m.Chunks)))
	}
	f.Add(-1, 0, "")
	f.Add(mostSize+1, 0, "\xff\xff\xff\xff\xff\xff\xff\xff")
	f.Add(mostSize, mostMode+1, "\x00\x00\x00\x01\x00\x00\x00\x00")
	f.Fuzz(func(t *testing.T, size, mode int, row string) {
		m := api.Meta{Size: size, Mode: mode}
		mayBe := size >= 0 && size <= mostSize && mode >= 0 && mode <= mostMode && len(row) < 8*(mostChunks+1)
		for ; len(row) >= 8; row = row[8:] {
			c := int(binary.BigEndian.Uint64([]byte(row[:8])))
			m.Chunks = append(m.Chunks, c)
			mayBe = mayBe && c >= 0 && c <= mostChunk
		}
		if mayBe {
			checkMayBe(t, m, metaBytes(m))
		} else {
			checkMayNotBe(t, m)
		}
	})
}
