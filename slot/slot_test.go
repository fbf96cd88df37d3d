package slot_test

import (
	"encoding/binary"
	"hash/crc32"
	"math"
	"slices"
	"strconv"
	"strings"
	"testing"

	"sexton/api"
	"sexton/disk"
	"sexton/slot"
)

var (
	text200 = strings.Repeat("x", 200)
	text201 = strings.Repeat("x", 201)
)

// numberBytes, frameOf, copyOf and rowOf are made by the library's means alone: no call of the program makes them.
func numberBytes(n int) string {
	b := strings.TrimLeft(string(binary.BigEndian.AppendUint64(nil, uint64(n))), "\x00")
	return string(rune(len(b))) + b
}

func frameOf(text string) string {
	return string(binary.BigEndian.AppendUint32(nil, crc32.ChecksumIEEE([]byte(text)))) + numberBytes(len(text)) + text
}

func copyOf(n int, s string) string { return frameOf(numberBytes(n) + s) }

func rowOf(l ...string) string {
	b := numberBytes(len(l))
	for _, s := range l {
		b += numberBytes(len(s)) + s
	}
	return b
}

func tableOf(at ...int) string {
	var l []string
	for _, n := range at {
		l = append(l, numberBytes(n))
	}
	return rowOf(l...)
}

// blocks is a disk of these.
func blocks(l ...string) api.Disk { return api.Disk{Blocks: l} }

// empty is so many blocks that say nothing.
func empty(n int) []string { return make([]string, n) }

// waiting is d, for which these writes wait behind those that do.
func waiting(d api.Disk, l ...api.Write) api.Disk {
	return api.Disk{Blocks: d.Blocks, Wait: append(slices.Clone(d.Wait), l...)}
}

// filled is d, for which so many writes wait to its last block, in which they leave what it says.
func filled(d api.Disk, writes int) api.Disk {
	at := len(d.Blocks) - 1
	last := says(d, at)
	for i := range writes {
		s := "w" + strconv.Itoa(i)
		if i == writes-1 {
			s = last
		}
		d = waiting(d, api.Write{At: at, Text: s})
	}
	return d
}

// says is what a block says, by the document's words.
func says(d api.Disk, at int) string {
	s := d.Blocks[at]
	for _, w := range d.Wait {
		if w.At == at {
			s = w.Text
		}
	}
	return s
}

// synced is d behind a Sync, by the document's words.
func synced(d api.Disk) api.Disk {
	var f api.Disk
	for at := range d.Blocks {
		f.Blocks = append(f.Blocks, says(d, at))
	}
	return f
}

// model is a shelf, what Load and Free tell of it, and to which block of the twin the next table goes.
type model struct {
	d    api.Disk
	l    []string
	n    int
	free []int
	to   int
}

// upTo is the numbers from the first to the last one.
func upTo(first, last int) []int {
	var l []int
	for n := first; n <= last; n++ {
		l = append(l, n)
	}
	return l
}

// greatShelf has so many blocks and pages; those are in its last blocks, from the end on.
func greatShelf(size, pages int) model {
	d, m := blocks(empty(size)...), model{n: 3, to: 0, free: upTo(2, size-pages-1)}
	var table []int
	for i := range pages {
		at, s := size-1-i, "p"+strconv.Itoa(i)
		table, m.l = append(table, at), append(m.l, s)
		d.Blocks[at] = frameOf(s)
	}
	d.Blocks[1] = copyOf(3, tableOf(table...))
	m.d = d
	return m
}

// shelves are ordinary ones, and each edge of what a table is, where it is said, and what its blocks say.
func shelves() map[string]model {
	a, b, none := frameOf("a"), frameOf("b"), []string(nil)
	ab, ba := tableOf(2, 3), tableOf(3, 2)
	m := map[string]model{
		"new, of 3 blocks":              {blocks(empty(3)...), none, 0, []int{2}, 0},
		"new, of 5 blocks":              {blocks(empty(5)...), none, 0, []int{2, 3, 4}, 0},
		"new, of 200 blocks":            {blocks(empty(200)...), none, 0, upTo(2, 199), 0},
		"no copy, and odd blocks":       {blocks("x", "y", "z", a), none, 0, []int{2, 3}, 0},
		"an empty text":                 {blocks(copyOf(4, ""), "", a, ""), none, 4, []int{2, 3}, 1},
		"an empty text behind":          {blocks(copyOf(4, ab), copyOf(5, ""), a, ""), none, 5, []int{2, 3}, 0},
		"an empty row":                  {blocks(copyOf(4, tableOf()), "", a, ""), none, 4, []int{2, 3}, 1},
		"one page":                      {blocks(copyOf(1, tableOf(2)), "", a), []string{"a"}, 1, nil, 1},
		"one page behind":               {blocks(copyOf(1, tableOf(3)), "", "", a, ""), []string{"a"}, 1, []int{2, 4}, 1},
		"two pages":                     {blocks(copyOf(1, ab), "", a, b, ""), []string{"a", "b"}, 1, []int{4}, 1},
		"two pages, falling":            {blocks(copyOf(1, ba), "", a, b, ""), []string{"b", "a"}, 1, []int{4}, 1},
		"two pages of one text":         {blocks(copyOf(1, ab), "", a, a, ""), []string{"a", "a"}, 1, []int{4}, 1},
		"an empty page":                 {blocks(copyOf(1, ab), "", frameOf(""), b, ""), []string{"", "b"}, 1, []int{4}, 1},
		"the first block and the last":  {blocks(copyOf(1, tableOf(5, 2)), "", a, "", "", b), []string{"b", "a"}, 1, []int{3, 4}, 1},
		"the second table":              {blocks(copyOf(1, ab), copyOf(2, tableOf(4)), a, b, frameOf("c")), []string{"c"}, 2, []int{2, 3}, 0},
		"the third table":               {blocks(copyOf(3, tableOf(4)), copyOf(2, ab), a, b, frameOf("c")), []string{"c"}, 3, []int{2, 3}, 1},
		"the older one is no table":     {blocks(copyOf(1, "odd"), copyOf(2, tableOf(2)), a, ""), []string{"a"}, 2, []int{3}, 0},
		"the older one's pages are odd": {blocks(copyOf(1, tableOf(3)), copyOf(2, tableOf(2)), a, "odd"), []string{"a"}, 2, []int{3}, 0},
		"free blocks are odd":           {blocks(copyOf(1, tableOf(3)), "", strings.Repeat("x", 256), a, "odd", b+"x"), []string{"a"}, 1, []int{2, 4, 5}, 1},
		"a page of 200":                 {blocks(copyOf(1, tableOf(2)), "", frameOf(text200), ""), []string{text200}, 1, []int{3}, 1},
		"a page of 201":                 {blocks(copyOf(1, tableOf(2)), "", frameOf(text201), ""), []string{text201}, 1, []int{3}, 1},
		"a page that fills its block":   {blocks(copyOf(1, tableOf(2)), "", frameOf(strings.Repeat("y", 250)), ""), []string{strings.Repeat("y", 250)}, 1, []int{3}, 1},
		"a page of any bytes":           {blocks(copyOf(1, tableOf(2)), "", frameOf("\x00\xff\x00"), ""), []string{"\x00\xff\x00"}, 1, []int{3}, 1},
		"a page that is a frame":        {blocks(copyOf(1, tableOf(2)), "", frameOf(a), ""), []string{a}, 1, []int{3}, 1},
		"a number of 0":                 {blocks(copyOf(0, tableOf(2)), "", a, ""), []string{"a"}, 0, []int{3}, 1},
		"the last number":               {blocks("", copyOf(999999999, tableOf(2)), a, ""), []string{"a"}, 999999999, []int{3}, 0},
		"49 pages":                      greatShelf(200, 49),
		"50 pages":                      greatShelf(200, 50),
		"61 pages, and few blocks free": greatShelf(65, 61),
		"61 pages, and no block free":   greatShelf(63, 61),
		"the table waits":               {waiting(blocks("", "", a, b), api.Write{At: 0, Text: copyOf(1, ba)}), []string{"b", "a"}, 1, nil, 1},
		"the next table waits":          {waiting(blocks(copyOf(1, tableOf(2)), "", a, b), api.Write{At: 1, Text: copyOf(2, tableOf(3))}), []string{"b"}, 2, []int{2}, 0},
		"the table waits to be lost":    {waiting(blocks(copyOf(1, ab), "", a, b), api.Write{At: 0, Text: "odd"}), none, 0, []int{2, 3}, 0},
		"a page waits":                  {waiting(blocks(copyOf(1, ab), "", a, "odd", ""), api.Write{At: 3, Text: b}), []string{"a", "b"}, 1, []int{4}, 1},
		"another page waits":            {waiting(blocks(copyOf(1, ab), "", a, b), api.Write{At: 2, Text: frameOf("new")}), []string{"new", "b"}, 1, nil, 1},
		"the last that waits counts":    {waiting(blocks(copyOf(1, ab), "", a, ""), api.Write{At: 3, Text: "odd"}, api.Write{At: 3, Text: b}), []string{"a", "b"}, 1, nil, 1},
		"a free block's write waits":    {waiting(blocks(copyOf(1, tableOf(3)), "", a, b), api.Write{At: 2, Text: "odd"}), []string{"b"}, 1, []int{2}, 1},
	}
	for _, n := range []int{1, 50, 97, 98, 99, 100} {
		m[strconv.Itoa(n)+" wait"] = model{filled(blocks(copyOf(1, ab), "", a, b, "", "", "last"), n), []string{"a", "b"}, 1, []int{4, 5, 6}, 1}
	}
	return m
}

// noTables are texts that are no table of a disk of 6 blocks, each for the one reason that it is named by.
func noTables() map[string]string {
	one, l := numberBytes(2), numberBytes(1)
	return map[string]string{
		"a letter":                        "x",
		"no row":                          "pages",
		"block 0":                         tableOf(0),
		"block 0 behind another":          tableOf(2, 0),
		"block 1":                         tableOf(1),
		"block 1 ahead of another":        tableOf(1, 2),
		"block 6 of 6":                    tableOf(6),
		"block 6 behind others":           tableOf(2, 3, 6),
		"block 200":                       tableOf(200),
		"block 256":                       tableOf(256),
		"block 258":                       tableOf(258),
		"block 65538":                     tableOf(65538),
		"the greatest number":             tableOf(api.MaxNumber),
		"one block twice":                 tableOf(2, 2),
		"one block twice, others between": tableOf(3, 2, 4, 3),
		"all the same":                    tableOf(5, 5, 5),
		"a byte behind the row":           tableOf(2, 3) + "\x00",
		"a byte behind an empty row":      tableOf() + "\x00",
		"a row behind the row":            tableOf(2) + tableOf(3),
		"200 bytes, most behind the row":  tableOf(2) + strings.Repeat("\x00", 194),
		"a byte ahead of the row":         "\x00" + tableOf(2),
		"a row without its last byte":     strings.TrimSuffix(tableOf(2, 3), "\x03"),
		"a row without its last text":     numberBytes(2) + numberBytes(len(one)) + one,
		"a row without its texts":         l,
		"a row that begins with 0":        "\x02\x00\x01" + numberBytes(len(one)) + one,
		"a text that begins with 0":       l + "\x02\x00\x02" + one,
		"a row of 1001":                   numberBytes(1001) + strings.Repeat("\x01\x02"+one, 60),
		"numbers without a row":           one + numberBytes(3),
		"a number without a row":          one,
		"a text that is a number's digit": rowOf("2"),
		"an empty text":                   rowOf(""),
		"an empty text behind a block":    rowOf(one, ""),
		"a number's byte alone":           rowOf("\x02"),
		"a number without its bytes":      rowOf("\x01"),
		"a number that begins with 0":     rowOf("\x02\x00\x02"),
		"a number of 5 bytes":             rowOf("\x05\x00\x00\x00\x00\x02"),
		"a number of 8 bytes":             rowOf("\x08\x00\x00\x00\x00\x00\x00\x00\x02"),
		"a byte behind a number":          rowOf(one + "\x00"),
		"a number behind a number":        rowOf(one + numberBytes(3)),
		"a row in a row":                  rowOf(tableOf(2)),
	}
}

// flip is s with one bit that is another one.
func flip(s string, bit int) string {
	b := []byte(s)
	b[bit/8] ^= 1 << (bit % 8)
	return string(b)
}

// noPages are what a block may say that is no page, each for the one reason that it is named by.
func noPages() map[string]string {
	f := frameOf("page")
	return map[string]string{
		"nothing":                  "",
		"another text":             "odd",
		"256 bytes":                strings.Repeat("\x01", 256),
		"6 bytes of 0":             strings.Repeat("\x00", 6),
		"the text alone":           "page",
		"the frame's sum alone":    f[:4],
		"a frame without its text": f[:6],
		"a frame cut":              f[:len(f)-1],
		"a byte behind it":         f + "\x00",
		"a frame behind it":        f + f,
		"an empty frame behind it": f + frameOf(""),
		"a byte ahead of it":       "\x00" + f,
		"another bit in the sum":   flip(f, 5),
		"another bit in the text":  flip(f, 8*len(f)-1),
		"a sum of another text":    frameOf("pages")[:4] + f[4:],
		"a length of another form": f[:4] + "\x02\x00\x04page",
	}
}

// framesMissing are shelves that are ErrFrame.
func framesMissing() map[string]api.Disk {
	a, b := frameOf("a"), frameOf("b")
	m := map[string]api.Disk{}
	for name, s := range noTables() {
		m["table: "+name] = blocks(copyOf(7, s), "", a, b, a, b)
		m["table behind: "+name] = blocks(copyOf(6, tableOf(2)), copyOf(7, s), a, b, a, b)
		m["table waits: "+name] = waiting(blocks(copyOf(6, tableOf(2)), "", a, b, a, b), api.Write{At: 1, Text: copyOf(7, s)})
	}
	for name, s := range noPages() {
		m["first page: "+name] = blocks(copyOf(1, tableOf(2, 4, 3)), "", s, a, b, "")
		m["middle page: "+name] = blocks(copyOf(1, tableOf(2, 4, 3)), "", a, b, s, "")
		m["last page: "+name] = blocks(copyOf(1, tableOf(2, 4, 3)), "", a, s, b, "")
		m["page waits: "+name] = waiting(blocks(copyOf(1, tableOf(2)), "", a, ""), api.Write{At: 2, Text: s})
	}
	full := greatShelf(63, 61).d
	full.Blocks[2] = "odd"
	m["the last of 61 pages"] = full
	m["and 100 writes wait"] = filled(blocks(copyOf(1, tableOf(2)), "", "odd", ""), 100)
	m["of the end's number"] = blocks(copyOf(1000000000, tableOf(2)), "", "odd", "")
	return m
}

// wrongDisks are not right.
func wrongDisks() map[string]api.Disk {
	a, t := frameOf("a"), copyOf(1, tableOf(2))
	return map[string]api.Disk{
		"no blocks":                     {},
		"201 blocks":                    blocks(empty(201)...),
		"a block of 257 bytes":          blocks(t, "", a, strings.Repeat("x", 257)),
		"101 writes":                    filled(blocks(t, "", a, ""), 101),
		"a write at -1":                 {Blocks: []string{t, "", a}, Wait: []api.Write{{At: -1}}},
		"a write behind the last":       {Blocks: []string{t, "", a}, Wait: []api.Write{{At: 3}}},
		"a text of 257 bytes":           {Blocks: []string{t, "", a}, Wait: []api.Write{{At: 2, Text: strings.Repeat("x", 257)}}},
		"not right, and 1 block":        {Blocks: []string{t}, Wait: []api.Write{{At: 1}}},
		"not right, and 2 blocks":       blocks(t, strings.Repeat("x", 257)),
		"not right, and one number":     {Blocks: []string{t, t, a}, Wait: []api.Write{{At: 3}}},
		"not right, and no table":       {Blocks: []string{copyOf(1, "x"), "", a}, Wait: []api.Write{{At: 3}}},
		"not right, and a page is none": {Blocks: []string{t, "", "odd"}, Wait: []api.Write{{At: 3}}},
	}
}

// tooFew are right disks that are no shelf.
func tooFew() map[string]api.Disk {
	t := copyOf(1, tableOf(2))
	return map[string]api.Disk{
		"1 block":                     blocks(""),
		"1 block, a copy":             blocks(t),
		"2 blocks":                    blocks("", ""),
		"2 blocks, an empty table":    blocks(copyOf(1, ""), ""),
		"2 blocks, a table":           blocks(t, ""),
		"2 blocks, of one number":     blocks(t, t),
		"2 blocks, no table":          blocks(copyOf(1, "x"), ""),
		"2 blocks, the end's number":  blocks(copyOf(1000000000, ""), ""),
		"2 blocks, and 100 wait":      filled(blocks("", ""), 100),
		"1 block, and 100 wait":       filled(blocks(""), 100),
		"2 blocks, and a write waits": waiting(blocks("", ""), api.Write{At: 1, Text: t}),
	}
}

// oneNumber are shelves of which both blocks of the twin are copies of one number.
func oneNumber() map[string]api.Disk {
	a, t := frameOf("a"), copyOf(1, tableOf(2))
	return map[string]api.Disk{
		"one copy twice":       blocks(t, t, a),
		"two tables":           blocks(t, copyOf(1, tableOf(3)), a, a),
		"two that are none":    blocks(copyOf(1, "x"), copyOf(1, "y"), a),
		"a page is none":       blocks(t, t, "odd"),
		"empty ones of 0":      blocks(copyOf(0, ""), copyOf(0, ""), a),
		"1000000000 twice":     blocks(copyOf(1000000000, ""), copyOf(1000000000, ""), a),
		"one waits":            waiting(blocks(t, "", a), api.Write{At: 1, Text: t}),
		"and 100 writes wait":  filled(blocks(t, t, a, ""), 100),
		"of 200 blocks":        blocks(append([]string{t, t}, empty(198)...)...),
		"one too long to save": blocks(t, copyOf(1, text201), a),
	}
}

// refusals is every shelf, or none, of which Load and Free tell an error.
func refusals() map[api.Errno]map[string]api.Disk {
	return map[api.Errno]map[string]api.Disk{
		api.ErrArg: wrongDisks(), api.ErrDisk: tooFew(), api.ErrTwin: oneNumber(), api.ErrFrame: framesMissing(),
	}
}

func show(d api.Disk) string {
	var b strings.Builder
	for _, s := range d.Blocks {
		b.WriteString(strconv.Quote(short(s)) + " ")
	}
	b.WriteString("wait:")
	for _, w := range d.Wait {
		b.WriteString(" " + strconv.Itoa(w.At) + " " + strconv.Quote(short(w.Text)))
	}
	return short(b.String())
}

// short cuts a long text so that a failure can be read.
func short(s string) string {
	if len(s) > 400 {
		return s[:400] + ".."
	}
	return s
}

func texts(l []string) string {
	var b strings.Builder
	for _, s := range l {
		b.WriteString(strconv.Quote(s) + " ")
	}
	return strconv.Itoa(len(l)) + " texts " + short(b.String())
}

func same(a, b api.Disk) bool {
	return slices.Equal(a.Blocks, b.Blocks) && slices.Equal(a.Wait, b.Wait)
}

func checkLoad(t *testing.T, what string, d api.Disk, l []string, n int) {
	t.Helper()
	if got, m, e := slot.Load(d); e != api.OK || !slices.Equal(got, l) || m != n {
		t.Errorf("%s: Load of %s: %s, %d, %d; want %s, %d", what, show(d), texts(got), m, e, texts(l), n)
	}
}

func checkFree(t *testing.T, what string, d api.Disk, free []int) {
	t.Helper()
	if got, e := slot.Free(d); e != api.OK || !slices.Equal(got, free) {
		t.Errorf("%s: Free of %s: %v, %d; want %v", what, show(d), got, e, free)
	}
}

func checkSave(t *testing.T, what string, d api.Disk, l []string, deeds int, want api.Disk, wantDone bool) {
	t.Helper()
	f, done, e := slot.Save(d, l, deeds)
	if e != api.OK || !same(f, want) || done != wantDone {
		t.Errorf("%s: Save of %s with %d to %s: %s, %v, %d; want %s, %v", what, texts(l), deeds, show(d), show(f), done, e, show(want), wantDone)
	}
}

func checkRefused(t *testing.T, what string, d api.Disk, l []string, deeds int, want api.Errno) {
	t.Helper()
	f, done, e := slot.Save(d, l, deeds)
	if e != want || done || len(f.Blocks) != 0 || len(f.Wait) != 0 {
		t.Errorf("%s: Save of %s with %d to %s: %s, %v, %d; want no disk, false, %d", what, texts(l), deeds, show(d), show(f), done, e, want)
	}
}

// checkRefusedAlways asks for a refusal with each number of deeds.
func checkRefusedAlways(t *testing.T, what string, d api.Disk, l []string, want api.Errno) {
	t.Helper()
	for _, deeds := range deedsOf(len(l)) {
		checkRefused(t, what, d, l, deeds, want)
	}
}

// deedsOf is each number of deeds of a Save of so many texts, and some beside them.
func deedsOf(texts int) []int {
	l := []int{math.MinInt, -2, -1, texts + 4, texts + 5, math.MaxInt}
	if texts > 60 {
		return append(l, 0, 1, texts, texts+1, texts+2, texts+3)
	}
	return append(l, upTo(0, texts+3)...)
}

func save(t *testing.T, d api.Disk, l []string, deeds int) api.Disk {
	t.Helper()
	f, _, e := slot.Save(d, l, deeds)
	if e != api.OK {
		t.Fatalf("P6.2: Save of %s with %d to %s: error %d", texts(l), deeds, show(d), e)
	}
	return f
}

func crash(t *testing.T, d api.Disk, keep []bool) api.Disk {
	t.Helper()
	f, e := disk.Crash(d, keep)
	if e != api.OK {
		t.Fatalf("Crash of %s: error %d", show(d), e)
	}
	return f
}

// behindDeeds is m's disk behind so many deeds of a Save of l, by the document's words.
func behindDeeds(m model, l []string, deeds int) api.Disk {
	d := waiting(m.d)
	if deeds < 0 || deeds > len(l)+3 {
		deeds = len(l) + 3
	}
	for i := range deeds {
		switch i - len(l) {
		case 0, 2:
			d = synced(d)
		case 1:
			d = waiting(d, api.Write{At: m.to, Text: copyOf(m.n+1, tableOf(m.free[:len(l)]...))})
		default:
			d = waiting(d, api.Write{At: m.free[i], Text: frameOf(l[i])})
		}
	}
	return d
}

// saved is the model behind a Save of l with all deeds.
func saved(m model, l []string) model {
	f := model{d: behindDeeds(m, l, -1), l: l, n: m.n + 1, to: 1 - m.to}
	for at := 2; at < len(m.d.Blocks); at++ {
		if !slices.Contains(m.free[:len(l)], at) {
			f.free = append(f.free, at)
		}
	}
	return f
}

// rows are what is saved to a shelf with so many free blocks and so much room for writes: some, and each edge.
func rows(free, room int) [][]string {
	l := [][]string{nil, {}, {"a"}, {""}, {text200}, {"new", "er"}, {"same", "same"}, {"", "\x00\xff", frameOf("c")}, {text200, text200, text200[:199], text200}}
	for _, n := range []int{free - 1, free, 48, 49} {
		if n >= 0 && n <= 49 {
			l = append(l, many(n))
		}
	}
	return slices.DeleteFunc(l, func(x []string) bool { return len(x) > free || len(x) > room })
}

func many(n int) []string {
	var l []string
	for i := range n {
		l = append(l, "text "+strconv.Itoa(i))
	}
	return l
}

func TestExamples(t *testing.T) {
	d, e := slot.Format(5)
	if e != api.OK {
		t.Fatalf("P6.1: Format(5): error %d", e)
	}
	checkLoad(t, "P6.1", d, nil, 0)
	d = save(t, d, []string{"a", "b"}, -1)
	checkLoad(t, "P6.1", d, []string{"a", "b"}, 1)
	checkFree(t, "P6.1", d, []int{4})
	checkRefusedAlways(t, "P6.2", d, []string{"c", "d"}, api.ErrSpace)
	checkLoad(t, "P6.2", save(t, d, []string{"c"}, -1), []string{"c"}, 2)
}

// What blocks say stands here by hand: the other tests make it by copyOf, tableOf and frameOf.
func TestBlocksWrittenByHand(t *testing.T) {
	a, b := "\xe8\xb7\xbe\x43\x01\x01a", "\x71\xbe\xef\xf9\x01\x01b"
	table := "\x01\x02\x01\x02\x01\x02\x01\x02\x01\x03"
	twin := "\x31\x49\x54\xfa\x01\x0c\x01\x01" + table
	if a != frameOf("a") || b != frameOf("b") || table != tableOf(2, 3) || twin != copyOf(1, table) {
		t.Errorf("frames %q, %q, table %q, copy %q", frameOf("a"), frameOf("b"), tableOf(2, 3), copyOf(1, table))
	}
	d := blocks("", "", "", "", "")
	checkSave(t, "P6.2", d, []string{"a", "b"}, -1, blocks(twin, "", a, b, ""), true)
	checkSave(t, "P6.2", d, []string{"a", "b"}, 2, waiting(d, api.Write{At: 2, Text: a}, api.Write{At: 3, Text: b}), false)
	checkSave(t, "P6.2", d, []string{"a", "b"}, 4, waiting(blocks("", "", a, b, ""), api.Write{At: 0, Text: twin}), false)
	checkLoad(t, "P6.1", blocks(twin, "", a, b, ""), []string{"a", "b"}, 1)
}

func TestFormat(t *testing.T) {
	for _, n := range []int{math.MinInt, -3, -1, 0, 1, 2, 201, 202, 256, math.MaxInt} {
		if d, e := slot.Format(n); e != api.ErrArg || len(d.Blocks) != 0 || len(d.Wait) != 0 {
			t.Errorf("P6.1: Format(%d): %s, %d; want no disk, %d", n, show(d), e, api.ErrArg)
		}
	}
	for n := 3; n <= 200; n++ {
		d, e := slot.Format(n)
		if e != api.OK || !same(d, blocks(empty(n)...)) {
			t.Errorf("P6.1: Format(%d): %s, %d", n, show(d), e)
		}
		checkLoad(t, "P6.1: new", d, nil, 0)
		checkFree(t, "P6.1: new", d, upTo(2, n-1))
	}
}

func TestLoadAndFree(t *testing.T) {
	for name, m := range shelves() {
		checkLoad(t, "P6.1: "+name, m.d, m.l, m.n)
		checkFree(t, "P6.1: "+name, m.d, m.free)
	}
	for _, n := range []int{0, 1, 255, 256, 999999999, 1000000000, 1000000001, api.MaxNumber} {
		d := blocks(copyOf(n, tableOf(3)), "", "", frameOf("a"))
		checkLoad(t, "P6.1: any number", d, []string{"a"}, n)
		checkFree(t, "P6.1: any number", d, []int{2})
	}
}

// Each block there may be is told as a page's, and none beside the disk's.
func TestEveryBlockOfATable(t *testing.T) {
	for _, size := range []int{3, 4, 5, 100, 199, 200} {
		for at := range 300 {
			d := blocks(empty(size)...)
			for i := range d.Blocks {
				d.Blocks[i] = frameOf("page " + strconv.Itoa(i))
			}
			d.Blocks[0] = copyOf(1, tableOf(at))
			l, n, e := slot.Load(d)
			switch is := at >= 2 && at < size; {
			case is && (e != api.OK || n != 1 || !slices.Equal(l, []string{"page " + strconv.Itoa(at)})):
				t.Errorf("P6.1: block %d of %d: %s, %d, %d", at, size, texts(l), n, e)
			case !is && e != api.ErrFrame:
				t.Errorf("P6.1: block %d of %d: error %d; want %d", at, size, e, api.ErrFrame)
			}
		}
	}
}

// Whatever a shelf is refused for, it is told ahead of what is wrong with the texts, or with the room for them.
func TestNoShelf(t *testing.T) {
	for want, disks := range refusals() {
		for name, d := range disks {
			if l, n, e := slot.Load(d); e != want || len(l) != 0 || n != 0 {
				t.Errorf("P6.1: %s: Load: %s, %d, %d; want none, 0, %d", name, texts(l), n, e, want)
			}
			if l, e := slot.Free(d); e != want || len(l) != 0 {
				t.Errorf("P6.1: %s: Free: %v, %d; want none, %d", name, l, e, want)
			}
			for _, l := range [][]string{nil, {"a"}, {text201}, many(50), many(199)} {
				checkRefusedAlways(t, "P6.2: "+name, d, l, want)
			}
		}
	}
}

func TestSave(t *testing.T) {
	for name, m := range shelves() {
		for _, l := range rows(len(m.free), 100-len(m.d.Wait)) {
			for _, deeds := range deedsOf(len(l)) {
				all := deeds < 0 || deeds >= len(l)+3
				checkSave(t, "P6.2: "+name, m.d, l, deeds, behindDeeds(m, l, deeds), all)
			}
			s := saved(m, l)
			checkLoad(t, "P6.3: "+name, save(t, m.d, l, -1), l, m.n+1)
			checkFree(t, "P6.3: "+name, save(t, m.d, l, -1), s.free)
		}
	}
}

func TestTextTooLong(t *testing.T) {
	for name, m := range shelves() {
		for _, long := range []string{text201, strings.Repeat("é", 101), strings.Repeat("\x00", 256), strings.Repeat("x", 4001)} {
			for _, l := range [][]string{{long}, {"a", long}, {long, "a"}, append(many(48), long), append(many(300), long), append(many(1001), long)} {
				checkRefusedAlways(t, "P6.2: "+name, m.d, l, api.ErrLimit)
			}
		}
	}
	end := filled(blocks(copyOf(1000000000, tableOf(2)), "", frameOf("a"), ""), 100)
	checkRefusedAlways(t, "P6.2: the end, and 100 wait", end, []string{text201}, api.ErrLimit)
}

func TestTooFewFree(t *testing.T) {
	for name, m := range shelves() {
		for _, n := range []int{len(m.free) + 1, len(m.free) + 2, 199, 1000, 1001, 5000} {
			checkRefusedAlways(t, "P6.2: "+name, m.d, many(n), api.ErrSpace)
		}
	}
	for size := 3; size <= 51; size++ {
		d, _ := slot.Format(size)
		checkLoad(t, "P6.3: all blocks", save(t, d, many(size-2), -1), many(size-2), 1)
		checkFree(t, "P6.3: all blocks", save(t, d, many(size-2), -1), nil)
		checkRefusedAlways(t, "P6.2: one more", d, many(size-1), api.ErrSpace)
	}
	end := blocks(copyOf(1000000000, ""), "", "")
	checkRefusedAlways(t, "P6.2: the end's number", end, many(2), api.ErrSpace)
}

// A table of n blocks has 2 bytes, and 4 for each: 198 of 49, and 202 of 50; none has 199 to 201.
func TestTableTooLong(t *testing.T) {
	if len(tableOf(upTo(2, 50)...)) != 198 || len(tableOf(upTo(151, 199)...)) != 198 || len(tableOf(upTo(2, 51)...)) != 202 {
		t.Errorf("tables of %d, %d and %d bytes", len(tableOf(upTo(2, 50)...)), len(tableOf(upTo(151, 199)...)), len(tableOf(upTo(2, 51)...)))
	}
	for _, size := range []int{52, 53, 100, 199, 200} {
		d, _ := slot.Format(size)
		checkLoad(t, "P6.3: 49 texts", save(t, d, many(49), -1), many(49), 1)
		for _, n := range []int{50, 51, 100, 197, 198} {
			want := api.ErrLimit
			if n > size-2 {
				want = api.ErrSpace
			}
			checkRefusedAlways(t, "P6.2: a long table", d, many(n), want)
			checkRefusedAlways(t, "P6.2: a long table, and 100 wait", filled(d, 100), many(n), want)
		}
		end := blocks(append([]string{copyOf(1000000000, ""), ""}, empty(size-2)...)...)
		checkRefusedAlways(t, "P6.2: a long table, and the end's number", end, many(50), api.ErrLimit)
	}
}

// A Write that has no room is told only if it is done; what waits is laid by the first Sync.
func TestNoRoom(t *testing.T) {
	m := model{d: blocks(append([]string{copyOf(1, ""), ""}, empty(60)...)...), n: 1, free: upTo(2, 61), to: 1}
	for _, wait := range []int{0, 50, 51, 52, 96, 97, 98, 99, 100} {
		full := m
		full.d = filled(m.d, wait)
		for _, n := range []int{0, 1, 2, 3, 4, 48, 49} {
			for _, deeds := range deedsOf(n) {
				writes := n
				if deeds >= 0 && deeds < n {
					writes = deeds
				}
				if wait+writes > 100 {
					checkRefused(t, "P6.2: no room", full.d, many(n), deeds, api.ErrSpace)
				} else {
					checkSave(t, "P6.2: room", full.d, many(n), deeds, behindDeeds(full, many(n), deeds), deeds < 0 || deeds >= n+3)
				}
			}
		}
		checkLoad(t, "P6.1: many wait", full.d, nil, 1)
	}
}

// What the twin refuses is told as soon as the first Sync is done, not ahead of it.
func TestNumberTooGreat(t *testing.T) {
	for _, n := range []int{1000000000, 1000000001, api.MaxNumber} {
		m := model{d: blocks(copyOf(3, tableOf(4)), copyOf(n, tableOf(2)), frameOf("a"), "", "", ""), n: n, free: []int{3, 4, 5}, to: 0}
		for _, l := range [][]string{nil, {"b"}, {"b", "c"}, {"b", "c", "d"}} {
			for _, deeds := range deedsOf(len(l)) {
				if deeds >= 0 && deeds <= len(l) {
					checkSave(t, "P6.2: the end", m.d, l, deeds, behindDeeds(m, l, deeds), false)
				} else {
					checkRefused(t, "P6.2: the end", m.d, l, deeds, api.ErrLimit)
				}
			}
		}
		full := model{d: filled(m.d, 100), n: n, free: m.free, to: 0}
		checkSave(t, "P6.2: the end, and no room", full.d, []string{"b"}, 0, full.d, false)
		for _, deeds := range []int{-1, 1, 2, 3, 4, 5} {
			checkRefused(t, "P6.2: the end, and no room", full.d, []string{"b"}, deeds, api.ErrSpace)
		}
	}
	d := blocks(copyOf(999999999, tableOf(2)), "", frameOf("a"), "")
	d = save(t, d, []string{"b"}, -1)
	checkLoad(t, "P6.3: the last that is saved", d, []string{"b"}, 1000000000)
	checkRefused(t, "P6.2: behind the last", d, []string{"c"}, -1, api.ErrLimit)
}

func TestWhatIsSavedIsLoaded(t *testing.T) {
	for name, m := range shelves() {
		for _, l := range [][]string{{"a"}, {"b", "c"}, nil, {text200}, {"", ""}, {"d"}} {
			if len(l) > len(m.free) || len(m.d.Wait)+len(l) > 100 || m.n >= 1000000000 {
				continue
			}
			next, done, e := slot.Save(m.d, l, -1)
			m = saved(m, l)
			if e != api.OK || !done || !same(next, m.d) {
				t.Errorf("P6.2: %s: Save of %s: %s, %v, %d; want %s", name, texts(l), show(next), done, e, show(m.d))
			}
			for _, keep := range [][]bool{nil, {true, true}} {
				checkLoad(t, "P6.3: "+name, crash(t, next, keep), m.l, m.n)
				checkFree(t, "P6.3: "+name, crash(t, next, keep), m.free)
			}
		}
	}
}

// keeps is every row of so many bools (of more than 6 those that repeat each 6), none, and one more than there are.
func keeps(n int) [][]bool {
	l := [][]bool{nil, slices.Repeat([]bool{true}, n+1)}
	for mask := range 1 << min(n, 6) {
		var keep []bool
		for i := range n {
			keep = append(keep, mask>>(i%6)&1 == 1)
		}
		l = append(l, keep)
	}
	return l
}

// behindCrash is what is loaded behind so many deeds of a Save of l to m, where nothing waited, and a crash.
func behindCrash(m model, l []string, deeds int, keep []bool) ([]string, int) {
	turned := deeds == len(l)+2 && len(keep) > 0 && keep[0]
	if turned || deeds < 0 || deeds > len(l)+2 {
		return l, m.n + 1
	}
	return m.l, m.n
}

func TestEveryCrashBehindASave(t *testing.T) {
	for name, m := range shelves() {
		if len(m.d.Wait) > 0 {
			continue
		}
		for _, l := range rows(len(m.free), 100) {
			for _, deeds := range deedsOf(len(l)) {
				f := save(t, m.d, l, deeds)
				for _, keep := range keeps(len(f.Wait)) {
					want, n := behindCrash(m, l, deeds, keep)
					checkLoad(t, "P6.3: "+name, crash(t, f, keep), want, n)
				}
			}
		}
	}
}

// Crash upon crash: each Save goes on from what the last crash left.
func TestCrashUponCrash(t *testing.T) {
	var goOn func(m model, more int)
	goOn = func(m model, more int) {
		checkLoad(t, "P6.3", m.d, m.l, m.n)
		checkFree(t, "P6.3", m.d, m.free)
		if more == 0 {
			return
		}
		l := slices.Repeat([]string{"left " + strconv.Itoa(more)}, min(len(m.free), more))
		for deeds := range len(l) + 4 {
			f := save(t, m.d, l, deeds)
			for mask := range 1 << len(f.Wait) {
				var keep []bool
				for i := range f.Wait {
					keep = append(keep, mask>>i&1 == 1)
				}
				next := m
				if _, n := behindCrash(m, l, deeds, keep); n > m.n {
					next = saved(m, l)
				}
				next.d = crash(t, f, keep)
				goOn(next, more-1)
			}
		}
	}
	goOn(model{d: blocks(empty(6)...), free: []int{2, 3, 4, 5}}, 4)
}

// Where a stopped Save's writes wait still, the next one goes on from what the blocks say.
func TestSaveBehindASave(t *testing.T) {
	table := copyOf(1, tableOf(2))
	d := blocks(table, "", frameOf("a"), "", "")
	d = save(t, d, []string{"b", "c"}, 1)
	checkLoad(t, "P6.1", d, []string{"a"}, 1)
	d = save(t, d, []string{"d"}, 1)
	want := waiting(blocks(table, "", frameOf("a"), "", ""), api.Write{At: 3, Text: frameOf("b")}, api.Write{At: 3, Text: frameOf("d")})
	checkSave(t, "P6.2", d, nil, 0, want, false)
	next := copyOf(2, tableOf(3))
	d = save(t, d, []string{"e"}, 3)
	checkSave(t, "P6.2", d, nil, 0, waiting(blocks(table, "", frameOf("a"), frameOf("e"), ""), api.Write{At: 1, Text: next}), false)
	checkLoad(t, "P6.1", d, []string{"e"}, 2)
	checkFree(t, "P6.1", d, []int{2, 4})
	checkSave(t, "P6.2", d, []string{"f"}, -1, blocks(copyOf(3, tableOf(2)), next, frameOf("f"), frameOf("e"), ""), true)
}

// roomy is d on memory that has room behind its slices: there too nothing is to be written.
func roomy(d api.Disk) api.Disk {
	b := append(slices.Clone(d.Blocks), "behind", "behind")
	w := append(slices.Clone(d.Wait), api.Write{At: 7, Text: "behind"}, api.Write{At: 7, Text: "behind"})
	return api.Disk{Blocks: b[:len(d.Blocks)], Wait: w[:len(d.Wait)]}
}

// whole is roomy's disk with what stands in the room behind its slices.
func whole(d api.Disk) api.Disk {
	return api.Disk{Blocks: d.Blocks[:len(d.Blocks)+2], Wait: d.Wait[:len(d.Wait)+2]}
}

// overwrite changes all that an answer holds, and the room behind it.
func overwrite(d api.Disk) {
	for i := range d.Blocks[:cap(d.Blocks)] {
		d.Blocks[:cap(d.Blocks)][i] = "changed"
	}
	for i := range d.Wait[:cap(d.Wait)] {
		d.Wait[:cap(d.Wait)][i] = api.Write{At: 9, Text: "changed"}
	}
}

// answer is all that the calls tell of a disk and a row.
type answer struct {
	disks []api.Disk
	pages []string
	free  []int
}

func everyCall(d api.Disk, l []string) answer {
	var a answer
	for _, deeds := range deedsOf(len(l)) {
		f, _, _ := slot.Save(d, l, deeds)
		a.disks = append(a.disks, f)
	}
	a.pages, _, _ = slot.Load(d)
	a.free, _ = slot.Free(d)
	return a
}

func (a answer) overwrite() {
	for _, d := range a.disks {
		overwrite(d)
	}
	for i := range a.pages[:cap(a.pages)] {
		a.pages[:cap(a.pages)][i] = "changed"
	}
	for i := range a.free[:cap(a.free)] {
		a.free[:cap(a.free)][i] = -7
	}
}

func (a answer) is(b answer) bool {
	return slices.EqualFunc(a.disks, b.disks, same) && slices.Equal(a.pages, b.pages) && slices.Equal(a.free, b.free)
}

func TestArgumentsReadAsBefore(t *testing.T) {
	kinds := map[string]api.Disk{}
	for name, m := range shelves() {
		kinds[name] = m.d
	}
	for e, disks := range refusals() {
		for name, d := range disks {
			kinds["error "+strconv.Itoa(int(e))+": "+name] = d
		}
	}
	for name, d := range kinds {
		for _, l := range [][]string{nil, {"a"}, {"a", "b"}, {"a", text201}} {
			given, copied := roomy(d), roomy(d)
			full := append(slices.Clone(l), "behind", "behind")
			everyCall(given, full[:len(l)]).overwrite()
			if !same(whole(given), whole(copied)) || !slices.Equal(full, append(slices.Clone(l), "behind", "behind")) {
				t.Errorf("R2: %s: handed in as %s with %s, it reads %s with %s", name, show(d), texts(l), show(given), texts(full))
			}
		}
	}
}

func TestAnswersStandAlone(t *testing.T) {
	for name, m := range shelves() {
		for _, l := range [][]string{nil, {"a"}, {"a", "b"}} {
			given, row := roomy(m.d), slices.Clone(l)
			one, two, want := everyCall(given, row), everyCall(given, row), everyCall(m.d, l)
			one.overwrite()
			overwrite(given)
			for i := range row {
				row[i] = "changed"
			}
			if !two.is(want) {
				t.Errorf("R2: %s, %s: an answer changed with another, or with what was handed in", name, texts(l))
			}
			for i := range two.disks {
				overwrite(two.disks[i])
				rest := answer{disks: two.disks[i+1:], pages: two.pages, free: two.free}
				if !rest.is(answer{disks: want.disks[i+1:], pages: want.pages, free: want.free}) {
					t.Errorf("R2: %s, %s: an answer of Save changed another", name, texts(l))
				}
			}
		}
	}
	a, _ := slot.Format(3)
	b, _ := slot.Format(3)
	overwrite(a)
	if !same(b, blocks(empty(3)...)) {
		t.Errorf("R2: an answer of Format changed another: %s", show(b))
	}
}

// FuzzCalls saves, stops and crashes, as the bytes say, beside a plain account of what must be loaded.
func FuzzCalls(f *testing.F) {
	f.Add("\x00\x01\x02\x03\x04\x05\x06\x07\x08\x09\x0a\x0b")
	f.Add(strings.Repeat("\x05\x01\x07\xff\xa0", 40))
	f.Fuzz(func(t *testing.T, script string) {
		m := model{d: blocks(empty(9)...), free: upTo(2, 8)}
		for i := range min(len(script)/3, 60) {
			b, deeds := int(script[3*i]), int(script[3*i+1])%8-1
			l := slices.Repeat([]string{strings.Repeat("s", b)}, b%5)
			if e := refused(m, l); e != api.OK {
				checkRefusedAlways(t, "P6.2", m.d, l, e)
				continue
			}
			var keep []bool
			for k := range 5 {
				keep = append(keep, script[3*i+2]>>k&1 == 1)
			}
			d := crash(t, save(t, m.d, l, deeds), keep)
			if _, n := behindCrash(m, l, deeds, keep); n > m.n {
				m = saved(m, l)
			}
			m.d = d
			checkLoad(t, "P6.3", m.d, m.l, m.n)
			checkFree(t, "P6.3", m.d, m.free)
		}
	})
}

// refused is what a Save of few texts to a small shelf is refused for.
func refused(m model, l []string) api.Errno {
	for _, s := range l {
		if len(s) > 200 {
			return api.ErrLimit
		}
	}
	if len(l) > len(m.free) {
		return api.ErrSpace
	}
	return api.OK
}

// FuzzLoad holds Load against the table's own words: what is loaded tells of each block which it is, so it is a table just if it is theirs.
func FuzzLoad(f *testing.F) {
	for _, s := range noTables() {
		f.Add(s)
	}
	f.Add("")
	f.Add(tableOf())
	f.Add(tableOf(5, 3, 2))
	f.Add(tableOf(upTo(2, 60)...))
	f.Fuzz(func(t *testing.T, text string) {
		if len(copyOf(1, text)) > api.MaxBlock {
			return
		}
		d := blocks(copyOf(1, text), "")
		for at := 2; at < 80; at++ {
			d.Blocks = append(d.Blocks, frameOf(strconv.Itoa(at)))
		}
		l, _, e := slot.Load(d)
		if want := isTable(text, 80); want != (e == api.OK) || !want && e != api.ErrFrame {
			t.Errorf("P6.1: the table %q: error %d; is one: %v", text, e, want)
			return
		}
		var table []int
		for _, s := range l {
			at, _ := strconv.Atoi(s)
			table = append(table, at)
		}
		if e == api.OK && text != "" && text != tableOf(table...) {
			t.Errorf("P6.1: the table %q: %s", text, texts(l))
		}
	})
}

// isTable tells a table by its bytes: each block's text is 1 2 1 and the block, since no disk has 256.
func isTable(text string, blocks int) bool {
	if text == "" || text == "\x00" {
		return true
	}
	if len(text) < 6 || text[0] != 1 || len(text) != 2+4*int(text[1]) {
		return false
	}
	seen := map[byte]bool{}
	for i := 2; i < len(text); i += 4 {
		at := text[i+3]
		if text[i:i+3] != "\x01\x02\x01" || at < 2 || int(at) >= blocks || seen[at] {
			return false
		}
		seen[at] = true
	}
	return true
}

// FuzzPage holds a page against the frame's own words: what is loaded of a block is what makes it.
func FuzzPage(f *testing.F) {
	for _, s := range noPages() {
		f.Add(s)
	}
	f.Add(frameOf(""))
	f.Add(frameOf("a"))
	f.Add(frameOf(strings.Repeat("y", 250)))
	f.Fuzz(func(t *testing.T, block string) {
		if len(block) > api.MaxBlock {
			return
		}
		is := block == frameOf("") || len(block) > 6 && block == frameOf(block[6:])
		l, _, e := slot.Load(blocks(copyOf(1, tableOf(3)), "", "", block))
		switch {
		case is && (e != api.OK || len(l) != 1 || frameOf(l[0]) != block):
			t.Errorf("P6.1: the page %q: %s, %d", block, texts(l), e)
		case !is && e != api.ErrFrame:
			t.Errorf("P6.1: the page %q: error %d; want %d", block, e, api.ErrFrame)
		}
	})
}
