package twin_test

import (
	"encoding/binary"
	"hash/crc32"
	"math"
	"slices"
	"strconv"
	"strings"
	"testing"

	"sexton/api"
	"sexton/disk"
	"sexton/twin"
)

var (
	text200 = strings.Repeat("x", 200)
	text201 = strings.Repeat("x", 201)
	everyAt = []int{math.MinInt, -200, -2, -1, 0, 1, 2, 3, 4, 5, 199, 200, 201, math.MaxInt - 1, math.MaxInt}
	deedses = []int{math.MinInt, -2, -1, 0, 1, 2, 3, 4, math.MaxInt}
)

// numberBytes, frameOf and copyOf are made by the library's means alone: no call of the program makes them.
func numberBytes(n int) string {
	b := strings.TrimLeft(string(binary.BigEndian.AppendUint64(nil, uint64(n))), "\x00")
	return string(rune(len(b))) + b
}

func frameOf(text string) string {
	return string(binary.BigEndian.AppendUint32(nil, crc32.ChecksumIEEE([]byte(text)))) + numberBytes(len(text)) + text
}

func copyOf(n int, s string) string { return frameOf(numberBytes(n) + s) }

// written are copies written out by hand.
var written = []struct {
	n    int
	s    string
	copy string
}{
	{1, "a", "\xdd\x2d\xd3\xaa\x01\x03\x01\x01a"},
	{2, "b", "\x6f\x09\xd1\xd3\x01\x03\x01\x02b"},
	{3, "", "\xc1\xcb\x72\x04\x01\x02\x01\x03"},
	{256, "c", "\x5e\x34\x4d\x42\x01\x04\x02\x01\x00c"},
	{0, "z", "\xf1\x09\x8a\xdd\x01\x02\x00z"},
	{1000000000, "end", "\xab\xe9\x0f\xc7\x01\x08\x04\x3b\x9a\xca\x00end"},
}

// flip is s with one bit that is another one.
func flip(s string, bit int) string {
	b := []byte(s)
	b[bit/8] ^= 1 << (bit % 8)
	return string(b)
}

// noCopies are what a block may say that is no copy, each for the one reason that it is named by.
func noCopies() map[string]string {
	return map[string]string{
		"nothing":                        "",
		"another text":                   "odd",
		"256 bytes":                      strings.Repeat("\x00", 256),
		"a byte behind the frame":        copyOf(9, "a") + "\x00",
		"a frame behind the frame":       copyOf(9, "a") + copyOf(8, "b"),
		"a frame of nothing behind":      copyOf(9, "a") + frameOf(""),
		"a byte ahead of the frame":      "\x00" + copyOf(9, "a"),
		"a sum of another text":          copyOf(9, "a")[:4] + copyOf(9, "b")[4:],
		"a sum with another bit":         flip(copyOf(9, "a"), 3),
		"a number with another bit":      flip(copyOf(9, "a"), 8*7+1),
		"a text with another bit":        flip(copyOf(9, "a"), 8*8+1),
		"a frame without its last byte":  copyOf(9, "abc")[:10],
		"a frame without its text":       copyOf(9, "abc")[:6],
		"a frame's sum alone":            copyOf(9, "abc")[:4],
		"no frame round it":              numberBytes(9) + "a",
		"a frame of nothing":             frameOf(""),
		"a number that begins with 0":    frameOf("\x02\x00\x09a"),
		"a 0 of one byte":                frameOf("\x01\x00a"),
		"a number of 5 bytes":            frameOf("\x05\x01\x02\x03\x04\x05a"),
		"a number of 97 bytes":           frameOf("abc"),
		"a number of 255 bytes":          frameOf("\xff" + strings.Repeat("\x01", 200)),
		"a number without its last byte": frameOf("\x04\x01\x02\x03"),
		"a number without its bytes":     frameOf("\x01"),
		"a length that begins with 0":    strings.Replace(copyOf(9, "a"), "\x01\x03\x01\x09a", "\x02\x00\x03\x01\x09a", 1),
	}
}

// blocks is a disk of these.
func blocks(l ...string) api.Disk { return api.Disk{Blocks: l} }

// filled is d, for which so many writes wait, to its last block.
func filled(d api.Disk, writes int) api.Disk {
	f := api.Disk{Blocks: d.Blocks, Wait: slices.Clone(d.Wait)}
	for i := range writes {
		f.Wait = append(f.Wait, api.Write{At: len(d.Blocks) - 1, Text: "w" + strconv.Itoa(i)})
	}
	return f
}

// says is what a block says, by the document's words.
func says(d api.Disk, at int) string {
	s := d.Blocks[at]
	for _, w := range d.Wait {
		if w.At == at {
			s = w.Text
		}
	}
	return s
}

// model is a twin at a block, what Get tells of it, and to which block the next copy goes.
type model struct {
	d  api.Disk
	at int
	s  string
	n  int
	to int
}

// twins are ordinary ones, and each edge of where the newest copy is, and how it is said.
func twins() map[string]model {
	a, b := copyOf(1, "a"), copyOf(2, "b")
	big := blocks(slices.Repeat([]string{strings.Repeat("x", 256)}, 200)...)
	big.Blocks[198], big.Blocks[199] = b, a
	bigger := blocks(slices.Clone(big.Blocks)...)
	bigger.Blocks[198], bigger.Blocks[199] = a, b
	m := map[string]model{
		"no copy":                        {blocks("", ""), 0, "", 0, 0},
		"no copy behind others":          {blocks(a, b, "", ""), 2, "", 0, 2},
		"no copy ahead of others":        {blocks("", "", a, b), 0, "", 0, 0},
		"no copy at the last but one":    {blocks("", "", "", "", ""), 3, "", 0, 3},
		"no copy at 198 of 200":          {blocks(make([]string, 200)...), 198, "", 0, 198},
		"one at the first":               {blocks(a, ""), 0, "a", 1, 1},
		"one behind it":                  {blocks("", a), 0, "a", 1, 0},
		"the newest first":               {blocks(b, a), 0, "b", 2, 1},
		"the newest behind":              {blocks(a, b), 0, "b", 2, 0},
		"first, in the middle":           {blocks(copyOf(9, "9"), b, a, copyOf(8, "8")), 1, "b", 2, 2},
		"behind, in the middle":          {blocks(copyOf(9, "9"), a, b, copyOf(8, "8")), 1, "b", 2, 1},
		"one of the other's number by":   {blocks(b, a, b, a), 1, "b", 2, 1},
		"the newest at 198 of 200":       {big, 198, "b", 2, 199},
		"the newest at 199 of 200":       {bigger, 198, "b", 2, 198},
		"one text twice":                 {blocks(copyOf(7, "a"), copyOf(6, "a")), 0, "a", 7, 1},
		"numbers far apart":              {blocks(copyOf(5, "a"), copyOf(70000, "b")), 0, "b", 70000, 0},
		"a greater one of fewer letters": {blocks(copyOf(256, "a"), copyOf(255, "zzz")), 0, "a", 256, 1},
		"a lesser one of a later text":   {blocks(copyOf(9, "a"), copyOf(10, "")), 0, "", 10, 0},
		"a number of 0 first":            {blocks(copyOf(0, "z"), ""), 0, "z", 0, 1},
		"a number of 0 behind":           {blocks("", copyOf(0, "z")), 0, "z", 0, 0},
		"a number of 0 beside 1":         {blocks(a, copyOf(0, "z")), 0, "a", 1, 1},
		"the last but one number":        {blocks(copyOf(999999998, "a"), copyOf(999999997, "b")), 0, "a", 999999998, 1},
		"the last number first":          {blocks(copyOf(999999999, "a"), copyOf(999999998, "b")), 0, "a", 999999999, 1},
		"the last number behind":         {blocks("", copyOf(999999999, "a")), 0, "a", 999999999, 0},
		"a text of 200":                  {blocks(copyOf(3, text200), a), 0, text200, 3, 1},
		"a text of 201":                  {blocks(a, copyOf(3, text201)), 0, text201, 3, 0},
		"a text that fills its block":    {blocks(copyOf(0, strings.Repeat("y", 249)), ""), 0, strings.Repeat("y", 249), 0, 1},
		"a copy of a copy":               {blocks(copyOf(3, b), a), 0, b, 3, 1},
		"a text of any bytes":            {blocks("", copyOf(3, "\x00\xff\x00")), 0, "\x00\xff\x00", 3, 0},
		"both wait":                      {api.Disk{Blocks: []string{"", ""}, Wait: []api.Write{{At: 0, Text: b}, {At: 1, Text: a}}}, 0, "b", 2, 1},
		"the newest waits":               {api.Disk{Blocks: []string{a, ""}, Wait: []api.Write{{At: 1, Text: b}}}, 0, "b", 2, 0},
		"the newest waits to be lost":    {api.Disk{Blocks: []string{a, b}, Wait: []api.Write{{At: 1, Text: "odd"}}}, 0, "a", 1, 1},
		"the last that waits counts":     {api.Disk{Blocks: []string{"", ""}, Wait: []api.Write{{At: 0, Text: copyOf(9, "9")}, {At: 1, Text: a}, {At: 0, Text: b}}}, 0, "b", 2, 1},
		"two of one number, one behind":  {api.Disk{Blocks: []string{a, a}, Wait: []api.Write{{At: 1, Text: b}}}, 0, "b", 2, 0},
		"another block's waits":          {api.Disk{Blocks: []string{a, "", "o"}, Wait: []api.Write{{At: 2, Text: b}}}, 0, "a", 1, 1},
		"98 wait":                        {filled(blocks(a, b, ""), 98), 0, "b", 2, 0},
		"99 wait":                        {filled(blocks(b, a, ""), 99), 0, "b", 2, 1},
	}
	for name, s := range noCopies() {
		m["both: "+name] = model{blocks(s, s), 0, "", 0, 0}
		m["first: "+name] = model{blocks(s, a), 0, "a", 1, 0}
		m["behind: "+name] = model{blocks(a, s), 0, "a", 1, 1}
		m["it waits: "+name] = model{api.Disk{Blocks: []string{a, b}, Wait: []api.Write{{At: 1, Text: s}}}, 0, "a", 1, 1}
	}
	return m
}

// wrongDisks are not right.
func wrongDisks() map[string]api.Disk {
	a, b := copyOf(1, "a"), copyOf(2, "b")
	return map[string]api.Disk{
		"no blocks":                 {},
		"201 blocks":                blocks(make([]string, 201)...),
		"a block of 257 bytes":      blocks(a, b, strings.Repeat("x", 257)),
		"a copy of 257 bytes":       blocks(a, copyOf(0, strings.Repeat("x", 250))),
		"101 writes":                filled(blocks(a, b), 101),
		"a write at -1":             {Blocks: []string{a, b}, Wait: []api.Write{{At: -1}}},
		"a write behind the last":   {Blocks: []string{a, b}, Wait: []api.Write{{At: 2}}},
		"a text of 257 bytes":       {Blocks: []string{a, b, ""}, Wait: []api.Write{{At: 2, Text: strings.Repeat("x", 257)}}},
		"not right, and one number": {Blocks: []string{a, a}, Wait: []api.Write{{At: 2}}},
	}
}

// oneNumber are twins at 0 of which both blocks are copies of one number.
func oneNumber() map[string]api.Disk {
	a := copyOf(1, "a")
	return map[string]api.Disk{
		"one copy twice":       blocks(a, a),
		"two texts":            blocks(a, copyOf(1, "b")),
		"two texts of 0":       blocks(copyOf(0, ""), copyOf(0, "b")),
		"1000000000 twice":     blocks(copyOf(1000000000, "a"), copyOf(1000000000, "b")),
		"the greatest twice":   blocks(copyOf(api.MaxNumber, "a"), copyOf(api.MaxNumber, "b")),
		"others behind":        blocks(a, a, copyOf(2, "b"), copyOf(3, "c")),
		"one waits":            {Blocks: []string{a, ""}, Wait: []api.Write{{At: 1, Text: a}}},
		"both wait":            {Blocks: []string{"", copyOf(2, "b")}, Wait: []api.Write{{At: 0, Text: a}, {At: 1, Text: a}}},
		"and 100 writes wait":  filled(blocks(a, a, ""), 100),
		"of 200 and 201 bytes": blocks(copyOf(4, text200), copyOf(4, text201)),
	}
}

func show(d api.Disk) string {
	var b strings.Builder
	for _, s := range d.Blocks {
		b.WriteString(strconv.Quote(short(s)) + " ")
	}
	b.WriteString("wait:")
	for _, w := range d.Wait {
		b.WriteString(" " + strconv.Itoa(w.At) + " " + strconv.Quote(short(w.Text)))
	}
	return short(b.String())
}

// short cuts a long text so that a failure can be read.
func short(s string) string {
	if len(s) > 300 {
		return s[:300] + ".."
	}
	return s
}

func same(a, b api.Disk) bool {
	return slices.Equal(a.Blocks, b.Blocks) && slices.Equal(a.Wait, b.Wait)
}

func checkGet(t *testing.T, what string, d api.Disk, at int, s string, n int, want api.Errno) {
	t.Helper()
	if u, m, e := twin.Get(d, at); u != s || m != n || e != want {
		t.Errorf("%s: Get at %d of %s: %q, %d, %d; want %q, %d, %d", what, at, show(d), short(u), m, e, short(s), n, want)
	}
}

func checkStop(t *testing.T, what string, d api.Disk, at int, s string, deeds int, want api.Disk, wantDone bool) {
	t.Helper()
	f, done, e := twin.Stop(d, at, s, deeds)
	if e != api.OK || !same(f, want) || done != wantDone {
		t.Errorf("%s: Stop %q with %d: %s, %v, %d; want %s, %v", what, short(s), deeds, show(f), done, e, show(want), wantDone)
	}
}

func checkPut(t *testing.T, what string, d api.Disk, at int, s string, want api.Disk) {
	t.Helper()
	if f, e := twin.Put(d, at, s); e != api.OK || !same(f, want) {
		t.Errorf("%s: Put %q: %s, %d; want %s", what, short(s), show(f), e, show(want))
	}
}

// checkRefused holds Put, and Stop with any deeds, against the one error.
func checkRefused(t *testing.T, what string, d api.Disk, at int, s string, want api.Errno) {
	t.Helper()
	for _, deeds := range deedses {
		f, done, e := twin.Stop(d, at, s, deeds)
		if e != want || done || len(f.Blocks) != 0 || len(f.Wait) != 0 {
			t.Errorf("%s: Stop %q at %d with %d: %s, %v, %d; want no disk, false, %d", what, short(s), at, deeds, show(f), done, e, want)
		}
	}
	if f, e := twin.Put(d, at, s); e != want || len(f.Blocks) != 0 || len(f.Wait) != 0 {
		t.Errorf("%s: Put %q at %d: %s, %d; want no disk, %d", what, short(s), at, show(f), e, want)
	}
}

func put(t *testing.T, d api.Disk, at int, s string) api.Disk {
	t.Helper()
	f, e := twin.Put(d, at, s)
	if e != api.OK {
		t.Fatalf("P5.2: Put %q at %d to %s: error %d", short(s), at, show(d), e)
	}
	return f
}

func stop(t *testing.T, d api.Disk, at int, s string, deeds int) api.Disk {
	t.Helper()
	f, _, e := twin.Stop(d, at, s, deeds)
	if e != api.OK {
		t.Fatalf("P5.2: Stop %q at %d with %d to %s: error %d", short(s), at, deeds, show(d), e)
	}
	return f
}

func crash(t *testing.T, d api.Disk, keep []bool) api.Disk {
	t.Helper()
	f, e := disk.Crash(d, keep)
	if e != api.OK {
		t.Fatalf("Crash of %s: error %d", show(d), e)
	}
	return f
}

// behindDeeds is what m's disk is behind 0, 1 or 2 deeds of a Stop of s, by the document's words.
func behindDeeds(m model, s string, deeds int) api.Disk {
	d := api.Disk{Blocks: m.d.Blocks, Wait: slices.Clone(m.d.Wait)}
	if deeds == 0 {
		return d
	}
	d.Wait = append(d.Wait, api.Write{At: m.to, Text: copyOf(m.n+1, s)})
	if deeds == 1 {
		return d
	}
	var synced api.Disk
	for at := range d.Blocks {
		synced.Blocks = append(synced.Blocks, says(d, at))
	}
	return synced
}

func TestExamples(t *testing.T) {
	d, _ := disk.New(2)
	checkGet(t, "P5.1", d, 0, "", 0, api.OK)
	d = put(t, d, 0, "a")
	checkGet(t, "P5.1", d, 0, "a", 1, api.OK)
	d = put(t, d, 0, "b")
	checkGet(t, "P5.1", d, 0, "b", 2, api.OK)
	checkGet(t, "P5.3", crash(t, stop(t, d, 0, "c", 1), nil), 0, "b", 2, api.OK)
}

// What the copies are made of stands here by hand: the other tests make them by copyOf.
func TestCopiesWrittenByHand(t *testing.T) {
	for _, x := range written {
		if x.copy != copyOf(x.n, x.s) {
			t.Errorf("copyOf(%d, %q) is %q; want %q", x.n, x.s, copyOf(x.n, x.s), x.copy)
		}
		checkGet(t, "P5.1", blocks(x.copy, ""), 0, x.s, x.n, api.OK)
		checkGet(t, "P5.1", blocks("", x.copy), 0, x.s, x.n, api.OK)
	}
	d, _ := disk.New(3)
	d = put(t, d, 1, "a")
	checkPut(t, "P5.2", d, 1, "b", blocks("", "\xdd\x2d\xd3\xaa\x01\x03\x01\x01a", "\x6f\x09\xd1\xd3\x01\x03\x01\x02b"))
}

func TestGet(t *testing.T) {
	for name, m := range twins() {
		checkGet(t, "P5.1: "+name, m.d, m.at, m.s, m.n, api.OK)
	}
	for _, n := range []int{1, 255, 256, 65535, 65536, 999999999, 1000000000, 1000000001, 4294967294, api.MaxNumber} {
		checkGet(t, "P5.1: any number", blocks(copyOf(n, "a"), ""), 0, "a", n, api.OK)
		checkGet(t, "P5.1: any number", blocks(copyOf(n-1, "b"), copyOf(n, "a")), 0, "a", n, api.OK)
		checkGet(t, "P5.1: any number", blocks(copyOf(n, "a"), copyOf(n-1, "b")), 0, "a", n, api.OK)
	}
}

func TestGetOfEveryTwoNumbers(t *testing.T) {
	l := []int{0, 1, 2, 9, 10, 255, 256, 257, 65535, 65536, 16777216, 999999999, 1000000000, api.MaxNumber}
	for _, a := range l {
		for _, b := range l {
			d := blocks(copyOf(a, "a"), copyOf(b, "b"))
			switch {
			case a > b:
				checkGet(t, "P5.1", d, 0, "a", a, api.OK)
			case a < b:
				checkGet(t, "P5.1", d, 0, "b", b, api.OK)
			default:
				checkGet(t, "P5.1", d, 0, "", 0, api.ErrTwin)
			}
		}
	}
}

func TestTwinsOfOneNumber(t *testing.T) {
	for name, d := range oneNumber() {
		checkGet(t, "P5.1: "+name, d, 0, "", 0, api.ErrTwin)
		for _, s := range []string{"", "a", text200, text201} {
			checkRefused(t, "P5.2: "+name, d, 0, s, api.ErrTwin)
		}
	}
}

// The disk comes first, whatever else could be told.
func TestEveryCallOfWrongDisks(t *testing.T) {
	for name, d := range wrongDisks() {
		for _, at := range everyAt {
			checkGet(t, "P5.1: "+name, d, at, "", 0, api.ErrArg)
			for _, s := range []string{"", "a", text200, text201} {
				checkRefused(t, "P5.2: "+name, d, at, s, api.ErrArg)
			}
		}
	}
}

// Also a twin of whose blocks one is missing is refused ahead of a text, or a number, that is not taken.
func TestNoTwinThere(t *testing.T) {
	disks := []api.Disk{blocks(""), blocks("", ""), blocks("", "", ""), blocks(make([]string, 199)...), blocks(make([]string, 200)...)}
	for _, d := range disks {
		for i := range d.Blocks {
			d.Blocks[i] = copyOf(1000000000, "end")
		}
		for _, d := range []api.Disk{d, filled(d, 99), filled(d, 100)} {
			for _, at := range append(everyAt, len(d.Blocks)-1, len(d.Blocks)) {
				if at >= 0 && at < len(d.Blocks)-1 {
					continue
				}
				checkGet(t, "P5.1: no twin", d, at, "", 0, api.ErrDisk)
				for _, s := range []string{"", "a", text201} {
					checkRefused(t, "P5.2: no twin", d, at, s, api.ErrDisk)
				}
			}
		}
	}
	d := blocks("", "", "", "")
	checkGet(t, "P5.1: the last but one", d, 2, "", 0, api.OK)
	checkPut(t, "P5.2: the last but one", d, 2, "a", blocks("", "", copyOf(1, "a"), ""))
}

func TestStop(t *testing.T) {
	for name, m := range twins() {
		for _, s := range []string{"", "new", m.s[:min(len(m.s), 200)], "\x00\xff", text200[:199], text200, strings.Repeat("é", 100)} {
			none, one, both := behindDeeds(m, s, 0), behindDeeds(m, s, 1), behindDeeds(m, s, 2)
			checkStop(t, "P5.2: "+name, m.d, m.at, s, 0, none, false)
			checkStop(t, "P5.2: "+name, m.d, m.at, s, 1, one, false)
			for _, deeds := range deedses {
				if deeds < 0 || deeds > 1 {
					checkStop(t, "P5.2: "+name, m.d, m.at, s, deeds, both, true)
				}
			}
			checkPut(t, "P5.2: "+name, m.d, m.at, s, both)
		}
	}
}

func TestTextTooLong(t *testing.T) {
	for name, m := range twins() {
		for _, s := range []string{text201, strings.Repeat("é", 101), strings.Repeat("\x00", 256), strings.Repeat("x", 4001), strings.Repeat("x", 1<<20)} {
			checkRefused(t, "P5.2: "+name, m.d, m.at, s, api.ErrLimit)
			checkRefused(t, "P5.2: "+name+", and no room", filled(m.d, 100-len(m.d.Wait)), m.at, s, api.ErrLimit)
		}
	}
}

func TestNumberTooGreat(t *testing.T) {
	for _, n := range []int{1000000000, 1000000001, 4294967294, api.MaxNumber} {
		end, old := copyOf(n, "end"), copyOf(3, "old")
		for _, d := range []api.Disk{blocks(end, "", ""), blocks("", end, ""), blocks(end, old, ""), blocks(old, end, ""), filled(blocks(old, end, ""), 100)} {
			checkGet(t, "P5.1: the end", d, 0, "end", n, api.OK)
			for _, s := range []string{"", "a", text200, text201} {
				checkRefused(t, "P5.2: the end", d, 0, s, api.ErrLimit)
			}
		}
	}
	d := blocks(copyOf(999999998, "a"), "")
	d = put(t, put(t, d, 0, "b"), 0, "c")
	checkGet(t, "P5.2: the last that is put", d, 0, "c", 1000000000, api.OK)
	checkRefused(t, "P5.2: behind the last", d, 0, "d", api.ErrLimit)
	lost := crash(t, stop(t, blocks(copyOf(999999999, "a"), ""), 0, "b", 1), nil)
	checkPut(t, "P5.2: the last was lost", lost, 0, "c", blocks(copyOf(999999999, "a"), copyOf(1000000000, "c")))
}

func TestNoRoom(t *testing.T) {
	for _, d := range []api.Disk{blocks("", "", ""), blocks(copyOf(1, "a"), "", ""), blocks(copyOf(1, "a"), copyOf(2, "b"), ""), blocks(copyOf(999999999, "a"), "", "")} {
		for _, s := range []string{"", "a", text200} {
			checkRefused(t, "P5.2: 100 wait", filled(d, 100), 0, s, api.ErrSpace)
			if _, _, e := twin.Stop(filled(d, 99), 0, s, 0); e != api.OK {
				t.Errorf("P5.2: 99 wait: error %d", e)
			}
		}
		s, n, _ := twin.Get(d, 0)
		checkGet(t, "P5.1: 100 wait", filled(d, 100), 0, s, n, api.OK)
	}
	f := stop(t, filled(blocks("", "", ""), 99), 0, "a", 1)
	if len(f.Wait) != 100 {
		t.Errorf("P5.2: behind 99, %d wait", len(f.Wait))
	}
	checkRefused(t, "P5.2: behind the 100th", f, 0, "b", api.ErrSpace)
	checkPut(t, "P5.2: 99 wait", filled(blocks("", "", ""), 99), 0, "a", blocks(copyOf(1, "a"), "", "w98"))
}

func TestWhatIsPutIsGot(t *testing.T) {
	for name, m := range twins() {
		d := m.d
		for i, s := range []string{"a", "", "a", text200, copyOf(1, "a"), "\x00", "e", "é"} {
			if m.n+i >= 1000000000 {
				break
			}
			d = put(t, d, m.at, s)
			checkGet(t, "P5.3: "+name, d, m.at, s, m.n+i+1, api.OK)
			for _, keep := range [][]bool{nil, {true, true}} {
				checkGet(t, "P5.3: a Crash behind a Put: "+name, crash(t, d, keep), m.at, s, m.n+i+1, api.OK)
			}
		}
		for at := range d.Blocks {
			if at != m.at && at != m.at+1 && d.Blocks[at] != says(m.d, at) {
				t.Errorf("P5.3: %s: block %d is %q; want %q", name, at, short(d.Blocks[at]), short(says(m.d, at)))
			}
		}
	}
}

// keeps is every row of at most three bools.
func keeps() [][]bool {
	l := [][]bool{nil}
	for n := 1; n <= 3; n++ {
		for mask := range 1 << n {
			var keep []bool
			for i := range n {
				keep = append(keep, mask>>i&1 == 1)
			}
			l = append(l, keep)
		}
	}
	return l
}

func TestEveryCrashBehindAStop(t *testing.T) {
	for name, m := range twins() {
		if len(m.d.Wait) > 0 {
			continue
		}
		for _, deeds := range deedses {
			for _, keep := range keeps() {
				c := crash(t, stop(t, m.d, m.at, "new", deeds), keep)
				kept := len(keep) > 0 && keep[0]
				if deeds != 0 && (deeds != 1 || kept) {
					checkGet(t, "P5.3: "+name, c, m.at, "new", m.n+1, api.OK)
				} else {
					checkGet(t, "P5.3: "+name, c, m.at, m.s, m.n, api.OK)
				}
			}
		}
	}
}

// Crash upon crash: each Stop goes on from what the last crash left.
func TestCrashUponCrash(t *testing.T) {
	var goOn func(d api.Disk, s string, n, more int)
	goOn = func(d api.Disk, s string, n, more int) {
		checkGet(t, "P5.3", d, 0, s, n, api.OK)
		if more == 0 {
			return
		}
		text := strings.Repeat("t", more)
		for _, keep := range [][]bool{nil, {true}} {
			goOn(crash(t, stop(t, d, 0, text, 0), keep), s, n, more-1)
			goOn(crash(t, stop(t, d, 0, text, 2), keep), text, n+1, more-1)
		}
		goOn(crash(t, stop(t, d, 0, text, 1), nil), s, n, more-1)
		goOn(crash(t, stop(t, d, 0, text, 1), []bool{true}), text, n+1, more-1)
	}
	goOn(blocks("", ""), "", 0, 5)
	goOn(blocks("odd", copyOf(7, "seven")), "seven", 7, 5)
}

// Where a Stop's Write waits still, the next Stop is one more, and goes to the other block.
func TestStopBehindAStop(t *testing.T) {
	d := stop(t, blocks(copyOf(1, "a"), copyOf(2, "b")), 0, "c", 1)
	d = stop(t, d, 0, "d", 1)
	checkGet(t, "P5.1", d, 0, "d", 4, api.OK)
	checkStop(t, "P5.2", d, 0, "e", 1, api.Disk{
		Blocks: []string{copyOf(1, "a"), copyOf(2, "b")},
		Wait:   []api.Write{{At: 0, Text: copyOf(3, "c")}, {At: 1, Text: copyOf(4, "d")}, {At: 0, Text: copyOf(5, "e")}},
	}, false)
	checkPut(t, "P5.2", d, 0, "e", blocks(copyOf(5, "e"), copyOf(4, "d")))
}

// roomy is d on memory that has room behind its slices: there too nothing is to be written.
func roomy(d api.Disk) api.Disk {
	blocks := append(slices.Clone(d.Blocks), "behind", "behind")
	writes := append(slices.Clone(d.Wait), api.Write{At: 7, Text: "behind"}, api.Write{At: 7, Text: "behind"})
	return api.Disk{Blocks: blocks[:len(d.Blocks)], Wait: writes[:len(d.Wait)]}
}

// behind is what stands in the room behind roomy's slices.
func behind(d api.Disk) api.Disk {
	b, w := len(d.Blocks), len(d.Wait)
	return api.Disk{Blocks: d.Blocks[b : b+2], Wait: d.Wait[w : w+2]}
}

// overwrite changes all that an answer holds, and the room behind it.
func overwrite(d api.Disk) {
	for i := range d.Blocks[:cap(d.Blocks)] {
		d.Blocks[:cap(d.Blocks)][i] = "changed"
	}
	for i := range d.Wait[:cap(d.Wait)] {
		d.Wait[:cap(d.Wait)][i] = api.Write{At: 9, Text: "changed"}
	}
}

// everyCall is the disks that the calls answer, those of an error among them.
func everyCall(d api.Disk, at int, s string) []api.Disk {
	var l []api.Disk
	for _, deeds := range deedses {
		f, _, _ := twin.Stop(d, at, s, deeds)
		l = append(l, f)
	}
	a, _ := twin.Put(d, at, s)
	b, _ := twin.Put(d, at-1, text201)
	twin.Get(d, at)
	return append(l, a, b)
}

func TestArgumentsReadAsBefore(t *testing.T) {
	kinds := twins()
	for name, d := range wrongDisks() {
		kinds["not right: "+name] = model{d: d}
	}
	for name, d := range oneNumber() {
		kinds["one number: "+name] = model{d: d}
	}
	for name, m := range kinds {
		given, full, text := roomy(m.d), behind(roomy(m.d)), strings.Repeat("text", 9)
		for _, answer := range everyCall(given, m.at, text) {
			overwrite(answer)
		}
		if !same(given, m.d) || !same(behind(given), full) || text != strings.Repeat("text", 9) {
			t.Errorf("R2: %s: handed in as %s, it reads %s", name, show(m.d), show(given))
		}
	}
}

func TestAnswersStandAlone(t *testing.T) {
	for name, m := range twins() {
		given := roomy(m.d)
		one, two, want := everyCall(given, m.at, "new"), everyCall(given, m.at, "new"), everyCall(m.d, m.at, "new")
		for i := range one {
			overwrite(one[i])
			overwrite(given)
			if !same(two[i], want[i]) {
				t.Errorf("R2: %s, answer %d: it changed with another: %s; want %s", name, i, show(two[i]), show(want[i]))
			}
		}
	}
}

// FuzzCalls gets, stops and crashes two twins on one disk, as the bytes say, beside a plain account of what must be got.
func FuzzCalls(f *testing.F) {
	f.Add("\x00\x01\x02\x03\x04\x05\x06\x07\x08\x09\x0a\x0b")
	f.Add(strings.Repeat("\x05\x01\x07", 40))
	f.Fuzz(func(t *testing.T, script string) {
		type content struct {
			s string
			n int
		}
		d, want := blocks("", "", "", ""), [2]content{}
		for i := range len(script) {
			b := int(script[i])
			which, deeds, kept, s := b&1, b>>1%3, b>>3&1 == 1, strings.Repeat("s", b%201)
			d = crash(t, stop(t, d, 2*which, s, deeds), []bool{kept})
			if deeds == 2 || deeds == 1 && kept {
				want[which] = content{s, want[which].n + 1}
			}
			for k, c := range want {
				checkGet(t, "P5.3", d, 2*k, c.s, c.n, api.OK)
			}
		}
	})
}

// FuzzGet holds Get against the copies' own words: what is got of a block is what makes it.
func FuzzGet(f *testing.F) {
	for _, x := range written {
		f.Add(x.copy)
	}
	for _, s := range noCopies() {
		f.Add(s)
	}
	f.Fuzz(func(t *testing.T, block string) {
		if len(block) > api.MaxBlock {
			return
		}
		s, n, e := twin.Get(blocks(block, ""), 0)
		if e != api.OK {
			t.Errorf("P5.1: %q: error %d", block, e)
		}
		_, got := twin.Put(blocks(block, block), 0, "")
		if is := block == copyOf(n, s); is != (got == api.ErrTwin) || !is && (s != "" || n != 0) {
			t.Errorf("P5.1: %q: %q, %d; twice: %d", block, s, n, got)
		}
	})
}
