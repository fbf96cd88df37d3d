package crc_test

import (
	"hash/crc32"
	"math"
	"math/bits"
	"slices"
	"strings"
	"testing"

	"sexton/api"
	"sexton/crc"
)

// texts are ordinary ones, the edges of their lengths, and bytes that could be taken for a frame's.
func texts() []string {
	return []string{
		"", "a", "b", "ab", "ba", "123456789", "\x00", "\x00\x00", "\x00\x00\x00\x00\x00", "\x01\x00", "\xff", "\xff\xff\xff\xff", "\x80\x01", "é",
		"\x00\x00\x00\x00\x00a", "\xcb\xf4\x39\x26\x01\x09123456789", everyByte(),
		strings.Repeat("x", 255), strings.Repeat("x", 256), strings.Repeat("\xff", 3999), strings.Repeat("x", 4000), strings.Repeat("\x00", 4000),
	}
}

// frames are written out by hand: no call of the program made them.
var frames = []struct{ text, frame string }{
	{"", "\x00\x00\x00\x00\x00"},
	{"a", "\xe8\xb7\xbe\x43\x01\x01a"},
	{"123456789", "\xcb\xf4\x39\x26\x01\x09123456789"},
	{"\x00", "\xd2\x02\xef\x8d\x01\x01\x00"},
	{"\xff\xff\xff\xff", "\xff\xff\xff\xff\x01\x04\xff\xff\xff\xff"},
	{"The quick brown fox jumps over the lazy dog", "\x41\x4f\xa3\x39\x01\x2bThe quick brown fox jumps over the lazy dog"},
}

// tails are what may stand behind: nothing, a frame, a beginning of one, and other bytes.
var tails = []string{"", "\x00", "x", "\x00\x00\x00\x00", "\x00\x00\x00\x00\x00", "\xe8\xb7\xbe\x43\x01\x01a", "\xe8\xb7\xbe\x43\x01\x01", "\xff\xff\xff\xff\xff\xff", "\x01\x01a"}

// numbers are both ends of what Step takes, and each bit alone or missing.
func numbers() []int {
	l := []int{0, 1, 2, 3, 254, 255, 256, 257, 65535, 65536, 3988292384, 4294967294, 4294967295}
	for i := range 32 {
		l = append(l, 1<<i, 4294967295^1<<i)
	}
	return l
}

func everyByte() string {
	var b []byte
	for i := range 256 {
		b = append(b, byte(i))
	}
	return string(b)
}

// short cuts a long text so that a failure can be read.
func short(s string) string {
	if len(s) > 40 {
		return s[:40] + ".."
	}
	return s
}

// bitSteps is eight bit's steps of c ^ b, as the document says them.
func bitSteps(c int, b byte) int {
	c ^= int(b)
	for range 8 {
		odd := c%2 == 1
		c /= 2
		if odd {
			c ^= 3988292384
		}
	}
	return c
}

// flip is s with one bit that is another one.
func flip(s string, bit int) string {
	b := []byte(s)
	b[bit/8] ^= 1 << (bit % 8)
	return string(b)
}

// frameOf makes a frame by the library's sum, whatever bytes are to stand for the text's: also those that are none.
func frameOf(text, bytes string) string {
	n := crc32.ChecksumIEEE([]byte(text))
	return string([]byte{byte(n >> 24), byte(n >> 16), byte(n >> 8), byte(n)}) + bytes
}

func put(t *testing.T, s string) string {
	t.Helper()
	f, e := crc.Put(s)
	if e != api.OK {
		t.Fatalf("P3.2: Put(%q), %d bytes: error %d", short(s), len(s), e)
	}
	return f
}

func checkGet(t *testing.T, promise, s, text, rest string) {
	t.Helper()
	if u, r, e := crc.Get(s); u != text || r != rest || e != api.OK {
		t.Errorf("%s: Get(%q): %q, %q, %d; want %q, %q", promise, short(s), short(u), short(r), e, short(text), short(rest))
	}
}

func checkNoFrame(t *testing.T, promise, s string) {
	t.Helper()
	if u, r, e := crc.Get(s); u != "" || r != "" || e != api.ErrFrame {
		t.Errorf("%s: Get(%q): %q, %q, %d; want ErrFrame", promise, short(s), short(u), short(r), e)
	}
}

func checkAll(t *testing.T, promise, s string, want []string, n int) {
	t.Helper()
	if l, m := crc.All(s); !slices.Equal(l, want) || m != n {
		t.Errorf("%s: All(%q): %d texts, %d bytes; want %d, %d", promise, short(s), len(l), m, len(want), n)
	}
}

func TestStepIsEightBitSteps(t *testing.T) {
	for _, c := range numbers() {
		for b := range 256 {
			want := bitSteps(c, byte(b))
			if n, ok := crc.Step(c, byte(b)); n != want || !ok {
				t.Fatalf("P3.1: Step(%d, %d): %d, %v; want %d", c, b, n, ok, want)
			}
		}
	}
	for c := 0; c <= 4294967295; c += 1 + c/997 {
		if n, ok := crc.Step(c, byte(c>>3)); n != bitSteps(c, byte(c>>3)) || !ok {
			t.Fatalf("P3.1: Step(%d, %d): %d, %v", c, byte(c>>3), n, ok)
		}
	}
}

func TestStepOfEdges(t *testing.T) {
	for _, x := range []struct {
		c    int
		b    byte
		want int
	}{
		{0, 0, 0}, {0, 1, 1996959894}, {1, 0, 1996959894}, {1, 1, 0}, {0, 255, 755167117}, {255, 255, 0}, {256, 0, 1},
		{4294967295, 0, 16777215 ^ 755167117}, {4294967295, 255, 16777215}, {4294967294, 254, 16777215}, {4294967040, 0, 16777215},
	} {
		if n, ok := crc.Step(x.c, x.b); n != x.want || !ok {
			t.Errorf("P3.1: Step(%d, %d): %d, %v; want %d", x.c, x.b, n, ok, x.want)
		}
	}
}

func TestStepOfNoNumber(t *testing.T) {
	for _, c := range []int{-1, -2, -256, -4294967295, -4294967296, math.MinInt, 4294967296, 4294967297, 1 << 33, 1 << 40, math.MaxInt} {
		for _, b := range []byte{0, 1, 127, 128, 255} {
			if n, ok := crc.Step(c, b); n != 0 || ok {
				t.Errorf("P3.1: Step(%d, %d): %d, %v; want none", c, b, n, ok)
			}
		}
	}
}

func TestSumOfKnownTexts(t *testing.T) {
	for s, want := range map[string]int{
		"":          0,
		"a":         3904355907,
		"abc":       891568578,
		"123456789": 3421780262,
		"The quick brown fox jumps over the lazy dog": 1095738169,
		"\x00":                     3523407757,
		"\x00\x00\x00\x00":         558161692,
		"\xff\xff\xff\xff":         4294967295,
		strings.Repeat("\x00", 32): 420107693,
		strings.Repeat("\xff", 32): 4285311755,
	} {
		if n := crc.Sum(s); n != want {
			t.Errorf("P3.1: Sum(%q): %d; want %d", s, n, want)
		}
	}
}

// stepped is the sum told by Step, one byte behind the other.
func stepped(s string) int {
	c := 4294967295
	for i := range len(s) {
		c, _ = crc.Step(c, s[i])
	}
	return c ^ 4294967295
}

func TestSumIsStepsOfAllBytes(t *testing.T) {
	// No bound is stated for Sum: longer texts than a frame's have one, too.
	for _, s := range append(texts(), strings.Repeat("x", 4001), strings.Repeat(everyByte(), 5000)) {
		n := crc.Sum(s)
		if n != stepped(s) || n != int(crc32.ChecksumIEEE([]byte(s))) {
			t.Errorf("P3.1: Sum(%q), %d bytes: %d; by Step %d", short(s), len(s), n, stepped(s))
		}
	}
	for a := range 256 {
		for b := range 256 {
			s := string([]byte{byte(a), byte(b)})
			if n := crc.Sum(s); n != int(crc32.ChecksumIEEE([]byte(s))) {
				t.Fatalf("P3.1: Sum(%q): %d", s, n)
			}
		}
	}
}

func TestPutOfKnownTexts(t *testing.T) {
	for _, x := range frames {
		if f, e := crc.Put(x.text); f != x.frame || e != api.OK {
			t.Errorf("P3.2: Put(%q): %q, %d; want %q", x.text, f, e, x.frame)
		}
	}
}

func TestPutOfLongTexts(t *testing.T) {
	for s, bytes := range map[string]string{
		strings.Repeat("x", 255):     "\x01\xff",
		strings.Repeat("x", 256):     "\x02\x01\x00",
		strings.Repeat("x", 3999):    "\x02\x0f\x9f",
		strings.Repeat("x", 4000):    "\x02\x0f\xa0",
		strings.Repeat("é", 2000):    "\x02\x0f\xa0",
		strings.Repeat("\x00", 4000): "\x02\x0f\xa0",
	} {
		if f, e := crc.Put(s); f != frameOf(s, bytes+s) || e != api.OK {
			t.Errorf("P3.2: Put(%q), %d bytes: %q, %d", short(s), len(s), short(f), e)
		}
	}
	for _, s := range []string{strings.Repeat("x", 4001), strings.Repeat("\x00", 4001), strings.Repeat("é", 2001), strings.Repeat("x", 65536), strings.Repeat("x", 1<<20)} {
		if f, e := crc.Put(s); f != "" || e != api.ErrLimit {
			t.Errorf("P3.2: Put of %d bytes: %q, %d; want ErrLimit", len(s), short(f), e)
		}
	}
}

func TestGetOfKnownFrames(t *testing.T) {
	for _, x := range frames {
		for _, tail := range tails {
			checkGet(t, "P3.2", x.frame+tail, x.text, tail)
		}
	}
	long := strings.Repeat("x", 4000)
	checkGet(t, "P3.2", frameOf(long, "\x02\x0f\xa0"+long), long, "")
	checkGet(t, "P3.2", frameOf(long, "\x02\x0f\xa0"+long+"x"), long, "x")
}

// Each cut of a frame is one that ends within its four bytes, within the number's bytes, or within the text.
func TestGetOfCutFrames(t *testing.T) {
	for _, x := range frames {
		for i := range len(x.frame) {
			checkNoFrame(t, "P3.2", x.frame[:i])
		}
	}
	long := strings.Repeat("x", 4000)
	f := frameOf(long, "\x02\x0f\xa0"+long)
	for _, n := range []int{0, 3, 4, 5, 6, 7, 8, 4000, len(f) - 1} {
		checkNoFrame(t, "P3.2", f[:n])
	}
}

func TestGetOfWrongSums(t *testing.T) {
	for _, x := range frames {
		for bit := range 4 * 8 {
			checkNoFrame(t, "P3.2", flip(x.frame, bit))
		}
		if sum := crc.Sum(x.text); sum != int(bits.ReverseBytes32(uint32(sum))) {
			lowestFirst := []byte(x.frame)
			slices.Reverse(lowestFirst[:4])
			checkNoFrame(t, "P3.2", string(lowestFirst))
		}
	}
	for _, s := range []string{
		"\x00\x00\x00\x01\x00",
		"\xff\xff\xff\xff\x00",
		"\x00\x00\x00\x00\x01\x01a",
		"\xe8\xb7\xbe\x43\x01\x01b",
		"\xe8\xb7\xbe\x43\x00",
		"\xcb\xf4\x39\x26\x01\x08123456789",
		"\xcb\xf4\x39\x26\x01\x09123456798",
		"123456789",
	} {
		checkNoFrame(t, "P3.2", s)
	}
}

// The sum is the text's, but what stands for its bytes is none's.
func TestGetOfWrongTextBytes(t *testing.T) {
	long := strings.Repeat("x", 4001)
	for _, x := range []struct{ text, bytes string }{
		{"", ""},
		{"", "\x01"},
		{"", "\x01\x00"},
		{"", "\x02\x00\x00"},
		{"", "\x04\x00\x00\x00\x00"},
		{"", "\x05\x00\x00\x00\x00\x00"},
		{"", "\xff"},
		{"a", "a"},
		{"a", "\x01\x01"},
		{"a", "\x01\x02a"},
		{"a", "\x02\x00\x01a"},
		{"a", "\x04\x00\x00\x00\x01a"},
		{"a", "\x05\x01\x01\x01\x01\x01a"},
		{"a", "\x04\xff\xff\xff\xffa"},
		{long, "\x02\x0f\xa1" + long},
		{long[1:], "\x02\x0f\xa1" + long[1:]},
		{strings.Repeat("x", 65536), "\x03\x01\x00\x00" + strings.Repeat("x", 65536)},
	} {
		checkNoFrame(t, "P3.2", frameOf(x.text, x.bytes))
	}
}

func TestAllOfKnownFrames(t *testing.T) {
	none, a, nine := frames[0].frame, frames[1].frame, frames[2].frame
	for _, x := range []struct {
		s    string
		want []string
		n    int
	}{
		{"", nil, 0},
		{none, []string{""}, 5},
		{none + none + none, []string{"", "", ""}, 15},
		{a, []string{"a"}, 7},
		{a + none + nine + a, []string{"a", "", "123456789", "a"}, 34},
		{strings.Repeat("\x00", 14), []string{"", ""}, 10},
		{strings.Repeat("\x00", 5000), make([]string, 1000), 5000},
		{a + a[:6], []string{"a"}, 7},
		{a + a[:4], []string{"a"}, 7},
		{a + nine[:7] + a, []string{"a"}, 7},
		{a + "x", []string{"a"}, 7},
		{none + "x" + a, []string{""}, 5},
		{none + flip(a, 0) + a, []string{""}, 5},
		{a + frameOf("b", "\x02\x00\x01b") + a, []string{"a"}, 7},
		{"x" + a, nil, 0},
		{"\x00" + a, nil, 0},
		{flip(a, 55) + a, nil, 0},
		{a[1:], nil, 0},
		{"\x00\x00\x00\x00", nil, 0},
	} {
		checkAll(t, "P3.2", x.s, x.want, x.n)
	}
}

func TestAllOfMoreThanARow(t *testing.T) {
	f := put(t, "ab")
	checkAll(t, "P3.2", strings.Repeat(f, 2500)+f[:3], slices.Repeat([]string{"ab"}, 2500), 2500*len(f))
}

func TestWhatIsPutIsGot(t *testing.T) {
	for _, s := range texts() {
		f := put(t, s)
		for _, tail := range append(tails, texts()...) {
			checkGet(t, "P3.3", f+tail, s, tail)
		}
	}
}

func TestFramesAreAllToldAndCut(t *testing.T) {
	l := []string{"", "a", "123456789", "", "\x00\x00\x00\x00\x00", everyByte(), "z"}
	whole := ""
	ends := []int{0}
	for _, s := range l {
		whole += put(t, s)
		ends = append(ends, len(whole))
	}
	for cut := 0; cut <= len(whole); cut++ {
		n := 0
		for n < len(l) && ends[n+1] <= cut {
			n++
		}
		checkAll(t, "P3.3", whole[:cut], l[:n], ends[n])
	}
	all := ""
	for _, s := range texts() {
		all += put(t, s)
	}
	checkAll(t, "P3.3", all, texts(), len(all))
}

func TestOneOtherBitIsSeen(t *testing.T) {
	for _, s := range texts() {
		for bit := 0; bit < 8*len(s); bit += 1 + len(s)/64 {
			other := flip(s, bit)
			if crc.Sum(other) == crc.Sum(s) {
				t.Errorf("P3.3: %q: bit %d is another one, the sum is not", short(s), bit)
			}
			f := put(t, s)
			checkNoFrame(t, "P3.3", f[:len(f)-len(s)]+other)
		}
	}
}

func TestOneOtherBitIsSeenAheadOfTheSameByte(t *testing.T) {
	for _, s := range []string{"a", "\x00", "\xff", "123456789", "\x00\x00\x00\x00"} {
		for bit := range 8 * len(s) {
			other := flip(s, bit)
			for b := range 256 {
				tail := string([]byte{byte(b)})
				if crc.Sum(s+tail) == crc.Sum(other+tail) {
					t.Errorf("P3.3: %q and %q have one sum", s+tail, other+tail)
				}
			}
		}
	}
}

// Two numbers that differ go on to differ, whatever byte comes: so a difference, once there, stays.
func TestStepKeepsNumbersApart(t *testing.T) {
	l := numbers()
	slices.Sort(l)
	l = slices.Compact(l)
	for b := range 256 {
		from := map[int]int{}
		for _, c := range l {
			n, ok := crc.Step(c, byte(b))
			if d, twice := from[n]; twice || !ok {
				t.Fatalf("P3.3: Step of %d and of %d by %d: both %d", c, d, b, n)
			}
			from[n] = c
		}
	}
}

// checkRead holds whatever s begins with against what is put of it.
func checkRead(t *testing.T, s string) {
	var l []string
	rest := s
	for {
		text, behind, e := crc.Get(rest)
		if e != api.OK {
			if text != "" || behind != "" || e != api.ErrFrame {
				t.Fatalf("P3.2: Get(%q): %q, %q, %d", rest, text, behind, e)
			}
			break
		}
		if f, e := crc.Put(text); e != api.OK || f+behind != rest {
			t.Fatalf("P3.3: Get(%q): %q, %q; put %q", rest, text, behind, f)
		}
		l = append(l, text)
		rest = behind
	}
	checkAll(t, "P3.2", s, l, len(s)-len(rest))
}

// TestWhatIsGotIsPut goes through every text of few bytes of those that decide, behind right sums too.
func TestWhatIsGotIsPut(t *testing.T) {
	heads := []string{"", "\x00\x00\x00\x00", "\xe8\xb7\xbe\x43", "\xd2\x02\xef\x8d", "\x00\x00\x00\x00\x00"}
	const letters = "\x00\x01\x02\xffa"
	var grow func(s string)
	grow = func(s string) {
		for _, h := range heads {
			checkRead(t, h+s)
		}
		for i := 0; i < len(letters) && len(s) < 6; i++ {
			grow(s + letters[i:i+1])
		}
	}
	grow("")
}

func FuzzWhatIsGotIsPut(f *testing.F) {
	for _, x := range frames {
		f.Add(x.frame)
		f.Add(x.frame + frames[0].frame + x.frame[:5])
	}
	f.Fuzz(checkRead)
}

func TestAnswersStandAlone(t *testing.T) {
	s := frames[1].frame + frames[0].frame
	one, _ := crc.All(s)
	two, _ := crc.All(s)
	one[0] = "changed"
	if !slices.Equal(two, []string{"a", ""}) {
		t.Errorf("R2: an answer changed with another: %q", two)
	}
}
