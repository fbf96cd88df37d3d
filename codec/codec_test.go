package codec_test

import (
	"slices"
	"strings"
	"testing"

	"sexton/api"
	"sexton/codec"
)

// numbers are a number's forms at each edge: where its bytes grow by one, and both ends.
var numbers = []struct {
	n     int
	bytes string
}{
	{0, "\x00"},
	{1, "\x01\x01"},
	{7, "\x01\x07"},
	{127, "\x01\x7f"},
	{128, "\x01\x80"},
	{255, "\x01\xff"},
	{256, "\x02\x01\x00"},
	{258, "\x02\x01\x02"},
	{65535, "\x02\xff\xff"},
	{65536, "\x03\x01\x00\x00"},
	{66051, "\x03\x01\x02\x03"},
	{16777215, "\x03\xff\xff\xff"},
	{16777216, "\x04\x01\x00\x00\x00"},
	{16909060, "\x04\x01\x02\x03\x04"},
	{2147483647, "\x04\x7f\xff\xff\xff"},
	{2147483648, "\x04\x80\x00\x00\x00"},
	{4294967295, "\x04\xff\xff\xff\xff"},
}

// noNumbers begin with no number: nothing, too few bytes, a first byte 0, more than 4 bytes.
var noNumbers = []string{
	"",
	"\x01",
	"\x02\x01",
	"\x03\x01\x01",
	"\x04\x01\x01\x01",
	"\x01\x00",
	"\x01\x00\x01",
	"\x02\x00\x01",
	"\x02\x00\x00",
	"\x03\x00\x01\x01",
	"\x04\x00\xff\xff\xff",
	"\x04\x00\x00\x00\x00",
	"\x05\x01\x01\x01\x01\x01",
	"\x05\x00\x01\x01\x01\x01",
	"\x08\x01\x01\x01\x01\x01\x01\x01\x01",
	"\x80" + strings.Repeat("\x01", 128),
	"\xff" + strings.Repeat("\x01", 255),
	"a",
}

// tails are what may stand behind: also what would go on with what was read.
var tails = []string{"", "\x00", "\x01", "\x04\xff\xff\xff\xff", "!", "xy", "\xff\xff"}

// texts are laid whole: any bytes, and lengths where the length's own bytes grow.
func texts() []string {
	return []string{
		"", "a", "ab", "\x00", "\x00\x00\x01", "\x01\x01", "\xff\xfe", "é",
		strings.Repeat("x", 255), strings.Repeat("x", 256), strings.Repeat("\x00", 3999), strings.Repeat("x", 4000),
	}
}

// rows are laid whole: counts where the count's own bytes grow, and the greatest of all.
func rows() [][]string {
	return [][]string{
		nil, {}, {""}, {"", ""}, {"a"}, {"a", ""}, {"", "a"}, {"a", "", "bc"}, {"\x00", "\x01\x00", "\xff"},
		texts(), make([]string, 255), make([]string, 256), make([]string, 999), make([]string, 1000),
		slices.Repeat([]string{strings.Repeat("x", 4000)}, 1000),
	}
}

// short cuts a long text so that a failure can be read.
func short(s string) string {
	if len(s) > 40 {
		return s[:40] + ".."
	}
	return s
}

func TestNumberBytes(t *testing.T) {
	for _, x := range numbers {
		if s, e := codec.Number(x.n); s != x.bytes || e != api.OK {
			t.Errorf("P1.1: Number(%d) = %q, %d; want %q", x.n, s, e, x.bytes)
		}
	}
}

func TestNumberOutOfBounds(t *testing.T) {
	for _, n := range []int{-1, -256, -4294967295, -1 << 63, 4294967296, 4294967297, 1 << 33, 1 << 40, 1<<63 - 1} {
		if s, e := codec.Number(n); s != "" || e != api.ErrArg {
			t.Errorf("P1.1: Number(%d) = %q, %d; want ErrArg", n, s, e)
		}
	}
}

func TestTextBytes(t *testing.T) {
	for s, want := range map[string]string{
		"":                         "\x00",
		"ab":                       "\x01\x02ab",
		"\x00":                     "\x01\x01\x00",
		strings.Repeat("x", 255):   "\x01\xff" + strings.Repeat("x", 255),
		strings.Repeat("x", 256):   "\x02\x01\x00" + strings.Repeat("x", 256),
		strings.Repeat("x", 4000):  "\x02\x0f\xa0" + strings.Repeat("x", 4000),
		strings.Repeat("é", 2000):  "\x02\x0f\xa0" + strings.Repeat("é", 2000),
		strings.Repeat("\x00", 10): "\x01\x0a" + strings.Repeat("\x00", 10),
	} {
		if b, e := codec.Text(s); b != want || e != api.OK {
			t.Errorf("P1.1: Text(%q) = %q, %d; want %q", short(s), short(b), e, short(want))
		}
	}
}

func TestTextTooLong(t *testing.T) {
	for _, s := range []string{strings.Repeat("x", 4001), strings.Repeat("é", 2001), strings.Repeat("x", 70000)} {
		if b, e := codec.Text(s); b != "" || e != api.ErrLimit {
			t.Errorf("P1.1: Text of %d bytes = %q, %d; want ErrLimit", len(s), short(b), e)
		}
	}
}

func TestRowBytes(t *testing.T) {
	for _, x := range []struct {
		row   []string
		bytes string
	}{
		{nil, "\x00"},
		{[]string{}, "\x00"},
		{[]string{""}, "\x01\x01\x00"},
		{[]string{"a", ""}, "\x01\x02\x01\x01a\x00"},
		{[]string{"", "a"}, "\x01\x02\x00\x01\x01a"},
		{[]string{"bc", "a", "bc"}, "\x01\x03\x01\x02bc\x01\x01a\x01\x02bc"},
		{make([]string, 256), "\x02\x01\x00" + strings.Repeat("\x00", 256)},
		{make([]string, 1000), "\x02\x03\xe8" + strings.Repeat("\x00", 1000)},
		{[]string{strings.Repeat("x", 4000)}, "\x01\x01\x02\x0f\xa0" + strings.Repeat("x", 4000)},
	} {
		if b, e := codec.Row(x.row); b != x.bytes || e != api.OK {
			t.Errorf("P1.1: Row of %d texts = %q, %d; want %q", len(x.row), short(b), e, short(x.bytes))
		}
	}
}

func TestRowTooMuch(t *testing.T) {
	long := strings.Repeat("x", 4001)
	for i, l := range [][]string{
		make([]string, 1001),
		make([]string, 70000),
		{long},
		{long, "a"},
		{"a", "b", long},
		append(make([]string, 999), long),
		append(make([]string, 1000), long),
	} {
		if b, e := codec.Row(l); b != "" || e != api.ErrLimit {
			t.Errorf("P1.1: row %d: %q, %d; want ErrLimit", i, short(b), e)
		}
	}
}

func TestGetNumber(t *testing.T) {
	for _, x := range numbers {
		for _, tail := range tails {
			if n, rest, ok := codec.GetNumber(x.bytes + tail); n != x.n || rest != tail || !ok {
				t.Errorf("P1.2: GetNumber(%q) = %d, %q, %v; want %d, %q", x.bytes+tail, n, rest, ok, x.n, tail)
			}
		}
	}
}

func TestGetNumberNone(t *testing.T) {
	for _, s := range noNumbers {
		if n, rest, ok := codec.GetNumber(s); n != 0 || rest != "" || ok {
			t.Errorf("P1.2: GetNumber(%q) = %d, %q, %v; want none", short(s), n, short(rest), ok)
		}
	}
}

func TestGetText(t *testing.T) {
	long := strings.Repeat("x", 4000)
	for _, x := range []struct{ bytes, text, rest string }{
		{"\x00", "", ""},
		{"\x00ab", "", "ab"},
		{"\x01\x02ab", "ab", ""},
		{"\x01\x02abc", "ab", "c"},
		{"\x01\x01\x00\x00", "\x00", "\x00"},
		{"\x02\x0f\xa0" + long, long, ""},
		{"\x02\x0f\xa0" + long + "x", long, "x"},
	} {
		if s, rest, ok := codec.GetText(x.bytes); s != x.text || rest != x.rest || !ok {
			t.Errorf("P1.2: GetText(%q) = %q, %q, %v", short(x.bytes), short(s), rest, ok)
		}
	}
}

func TestGetTextNone(t *testing.T) {
	wrong := []string{
		"\x01\x01",
		"\x01\x03ab",
		"\x02\x00\x02ab",
		"\x02\x0f\xa0" + strings.Repeat("x", 3999),
		"\x02\x0f\xa1" + strings.Repeat("x", 4001),
		"\x02\xff\xff" + strings.Repeat("x", 65535),
		"\x04\xff\xff\xff\xff" + strings.Repeat("x", 5000),
	}
	for _, s := range append(wrong, noNumbers...) {
		if u, rest, ok := codec.GetText(s); u != "" || rest != "" || ok {
			t.Errorf("P1.2: GetText(%q) = %q, %q, %v; want none", short(s), short(u), short(rest), ok)
		}
	}
}

func TestGetRow(t *testing.T) {
	for _, x := range []struct {
		bytes string
		row   []string
		rest  string
	}{
		{"\x00", nil, ""},
		{"\x00\x00", nil, "\x00"},
		{"\x01\x01\x00", []string{""}, ""},
		{"\x01\x02\x01\x01a\x00!", []string{"a", ""}, "!"},
		{"\x01\x02\x00\x01\x01a\x00", []string{"", "a"}, "\x00"},
		{"\x02\x03\xe8" + strings.Repeat("\x00", 1001), make([]string, 1000), "\x00"},
	} {
		if l, rest, ok := codec.GetRow(x.bytes); !slices.Equal(l, x.row) || rest != x.rest || !ok {
			t.Errorf("P1.2: GetRow(%q) = %q, %q, %v", short(x.bytes), l, rest, ok)
		}
	}
}

func TestGetRowNone(t *testing.T) {
	wrong := []string{
		"\x01\x01",
		"\x01\x02\x00",
		"\x01\x02\x01\x01a",
		"\x01\x01\x01\x03ab",
		"\x01\x01\x02\x00\x01a",
		"\x01\x01\x05\x01\x01\x01\x01\x01",
		"\x01\x01\x02\x0f\xa1" + strings.Repeat("x", 4001),
		"\x01\x02\x00\x02\x0f\xa1" + strings.Repeat("x", 4001),
		"\x02\x00\x01\x00",
		"\x02\x03\xe8" + strings.Repeat("\x00", 999),
		"\x02\x03\xe9" + strings.Repeat("\x00", 1001),
		"\x02\xff\xff" + strings.Repeat("\x00", 65535),
		"\x04\xff\xff\xff\xff" + strings.Repeat("\x00", 5000),
	}
	for _, s := range append(wrong, noNumbers...) {
		if l, rest, ok := codec.GetRow(s); len(l) != 0 || rest != "" || ok {
			t.Errorf("P1.2: GetRow(%q) = %q, %q, %v; want none", short(s), l, short(rest), ok)
		}
	}
}

func TestWhatIsLaidIsRead(t *testing.T) {
	for _, tail := range tails {
		for n := 0; n <= 4294967295; n += 1 + n/97 {
			b, e := codec.Number(n)
			if m, rest, ok := codec.GetNumber(b + tail); e != api.OK || m != n || rest != tail || !ok {
				t.Fatalf("P1.3: %d behind it %q: %d, %q, %v", n, tail, m, rest, ok)
			}
		}
		for _, s := range texts() {
			b, e := codec.Text(s)
			if u, rest, ok := codec.GetText(b + tail); e != api.OK || u != s || rest != tail || !ok {
				t.Errorf("P1.3: %q behind it %q: %q, %q, %v", short(s), tail, short(u), rest, ok)
			}
		}
		for _, l := range rows() {
			b, e := codec.Row(l)
			if m, rest, ok := codec.GetRow(b + tail); e != api.OK || !slices.Equal(m, l) || rest != tail || !ok {
				t.Errorf("P1.3: %d texts behind them %q: %d, %q, %v", len(l), tail, len(m), rest, ok)
			}
		}
	}
}

// checkRead holds whatever s begins with against what is laid of it.
func checkRead(t *testing.T, s string) {
	if n, rest, ok := codec.GetNumber(s); ok {
		if b, e := codec.Number(n); e != api.OK || b+rest != s {
			t.Fatalf("P1.3: GetNumber(%q) = %d, %q; laid %q", s, n, rest, b)
		}
	} else if n != 0 || rest != "" {
		t.Fatalf("P1.2: GetNumber(%q): none, but %d, %q", s, n, rest)
	}
	if u, rest, ok := codec.GetText(s); ok {
		if b, e := codec.Text(u); e != api.OK || b+rest != s {
			t.Fatalf("P1.3: GetText(%q) = %q, %q; laid %q", s, u, rest, b)
		}
	} else if u != "" || rest != "" {
		t.Fatalf("P1.2: GetText(%q): none, but %q, %q", s, u, rest)
	}
	if l, rest, ok := codec.GetRow(s); ok {
		if b, e := codec.Row(l); e != api.OK || b+rest != s {
			t.Fatalf("P1.3: GetRow(%q) = %q, %q; laid %q", s, l, rest, b)
		}
	} else if len(l) != 0 || rest != "" {
		t.Fatalf("P1.2: GetRow(%q): none, but %q, %q", s, l, rest)
	}
}

// TestWhatIsReadIsLaid goes through every text of few bytes of those that decide.
func TestWhatIsReadIsLaid(t *testing.T) {
	const letters = "\x00\x01\x02\x03\x04\x05\xff"
	var grow func(s string)
	grow = func(s string) {
		checkRead(t, s)
		for i := 0; i < len(letters) && len(s) < 6; i++ {
			grow(s + letters[i:i+1])
		}
	}
	grow("")
}

func FuzzWhatIsReadIsLaid(f *testing.F) {
	for _, s := range noNumbers {
		f.Add(s)
	}
	for _, x := range numbers {
		f.Add(x.bytes + "\x01\x01a\x00")
	}
	f.Fuzz(checkRead)
}

// TestGreaterNumbersStandBehind holds neighbours against each other: order goes on from one to the next.
func TestGreaterNumbersStandBehind(t *testing.T) {
	last, _ := codec.Number(0)
	check := func(n int) {
		b, e := codec.Number(n)
		if e != api.OK || len(b) < len(last) || b <= last {
			t.Fatalf("P1.3: the bytes of %d, %q, do not stand behind %q", n, b, last)
		}
		last = b
	}
	for n := 1; n < 70000; n++ {
		check(n)
	}
	for n := 70000; n < 4294967295; n += 1 + n/997 {
		check(n)
	}
	check(4294967295)
}

func TestArgumentsAndAnswersStandAlone(t *testing.T) {
	l := []string{"a", "", "bc"}
	first, _ := codec.Row(l)
	if !slices.Equal(l, []string{"a", "", "bc"}) {
		t.Errorf("R2: Row changed its argument: %q", l)
	}
	l[0] = "z"
	one, _, _ := codec.GetRow(first)
	two, _, _ := codec.GetRow(first)
	one[0] = "changed"
	if first != "\x01\x03\x01\x01a\x00\x01\x02bc" || !slices.Equal(two, []string{"a", "", "bc"}) {
		t.Errorf("R2: an answer changed with another: %q, %q", first, two)
	}
}
