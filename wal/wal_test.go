package wal_test

import (
	"encoding/binary"
	"hash/crc32"
	"math"
	"slices"
	"strconv"
	"strings"
	"testing"

	"sexton/api"
	"sexton/disk"
	"sexton/wal"
)

const lastEpoch = 1000000000

var (
	text200 = strings.Repeat("x", 200)
	text201 = strings.Repeat("x", 201)
)

// numberBytes, frameOf and recordOf are made by the library's means alone: no call of the program makes them.
func numberBytes(n int) string {
	b := strings.TrimLeft(string(binary.BigEndian.AppendUint64(nil, uint64(n))), "\x00")
	return string(rune(len(b))) + b
}

func frameOf(text string) string {
	return string(binary.BigEndian.AppendUint32(nil, crc32.ChecksumIEEE([]byte(text)))) + numberBytes(len(text)) + text
}

func recordOf(epoch, place int, s string) string {
	return frameOf(numberBytes(epoch) + numberBytes(place) + s)
}

// blocks is a disk of these.
func blocks(l ...string) api.Disk { return api.Disk{Blocks: l} }

// empty is so many blocks that say nothing.
func empty(n int) []string { return make([]string, n) }

// waiting is d, for which these writes wait behind those that do.
func waiting(d api.Disk, l ...api.Write) api.Disk {
	return api.Disk{Blocks: d.Blocks, Wait: append(slices.Clone(d.Wait), l...)}
}

// filled is d, for which so many writes wait to its block at, in which they leave what it says.
func filled(d api.Disk, at, writes int) api.Disk {
	last := says(d, at)
	for i := range writes {
		s := "w" + strconv.Itoa(i)
		if i == writes-1 {
			s = last
		}
		d = waiting(d, api.Write{At: at, Text: s})
	}
	return d
}

// says is what a block says, by the document's words.
func says(d api.Disk, at int) string {
	s := d.Blocks[at]
	for _, w := range d.Wait {
		if w.At == at {
			s = w.Text
		}
	}
	return s
}

// synced is d behind a Sync, by the document's words.
func synced(d api.Disk) api.Disk {
	var f api.Disk
	for at := range d.Blocks {
		f.Blocks = append(f.Blocks, says(d, at))
	}
	return f
}

// recordText is the text of the record of the epoch and the place that a block says: the end of it that makes all of it.
func recordText(block string, epoch, place int) (string, bool) {
	for k := range len(block) {
		if s := block[k+1:]; len(s) <= 200 && recordOf(epoch, place, s) == block {
			return s, true
		}
	}
	return "", false
}

// logOf is a log's records, by the document's words.
func logOf(d api.Disk, from, epoch int) []string {
	var l []string
	for at := from; at < len(d.Blocks); at++ {
		s, ok := recordText(says(d, at), epoch, at-from)
		if !ok {
			break
		}
		l = append(l, s)
	}
	return l
}

// model is a log on a disk, and its records.
type model struct {
	d           api.Disk
	from, epoch int
	l           []string
}

func (m model) room() int { return len(m.d.Blocks) - m.from - len(m.l) }

// many is so many texts, no two the same.
func many(n int) []string {
	var l []string
	for i := range n {
		l = append(l, "text "+strconv.Itoa(i))
	}
	return l
}

// greatLog has so many blocks, of which those from the first one of the log say its records.
func greatLog(size, from, epoch, records int) model {
	m := model{blocks(empty(size)...), from, epoch, many(records)}
	for i, s := range m.l {
		m.d.Blocks[from+i] = recordOf(epoch, i, s)
	}
	return m
}

// flip is s with one bit that is another one.
func flip(s string, bit int) string {
	b := []byte(s)
	b[bit/8] ^= 1 << (bit % 8)
	return string(b)
}

// noRecords are what a block may say that is no record of epoch 7 at the place, each for the one reason that it is named by.
func noRecords(place int) map[string]string {
	r, e, p := recordOf(7, place, "text"), numberBytes(7), numberBytes(place)
	digits := p[1:]
	m := map[string]string{
		"nothing":                          "",
		"another text":                     "odd",
		"256 bytes":                        strings.Repeat("\x01", 256),
		"6 bytes of 0":                     strings.Repeat("\x00", 6),
		"a frame of nothing":               frameOf(""),
		"no frame round it":                e + p + "text",
		"a byte behind it":                 r + "\x00",
		"itself behind it":                 r + r,
		"the next one behind it":           r + recordOf(7, place+1, "next"),
		"a frame of nothing behind it":     r + frameOf(""),
		"a byte ahead of it":               "\x00" + r,
		"cut":                              r[:len(r)-1],
		"without its text":                 r[:len(r)-4],
		"the sum alone":                    r[:4],
		"another bit in the sum":           flip(r, 5),
		"another bit in the length":        flip(r, 8*5),
		"another bit in the epoch":         flip(r, 8*7),
		"another bit in the text":          flip(r, 8*len(r)-1),
		"a sum of another text":            recordOf(7, place, "next")[:4] + r[4:],
		"a length that begins with 0":      r[:4] + "\x02\x00" + r[5:],
		"a frame in a frame":               frameOf(r),
		"an epoch alone":                   frameOf(e),
		"a text without a number":          frameOf("text"),
		"a text behind the epoch alone":    frameOf(e + "text"),
		"a text ahead of the numbers":      frameOf("text" + e + p),
		"a length ahead of the numbers":    frameOf(numberBytes(len(e+p)+1) + e + p + "x"),
		"an epoch without its bytes":       frameOf("\x01"),
		"an epoch without its last byte":   frameOf("\x04\x01\x02\x03"),
		"an epoch that begins with 0":      frameOf("\x02\x00\x07" + p + "text"),
		"an epoch of 5 bytes":              frameOf("\x05\x00\x00\x00\x00\x07" + p + "text"),
		"an epoch of 8 bytes":              frameOf("\x08\x00\x00\x00\x00\x00\x00\x00\x07" + p + "text"),
		"an epoch's byte alone":            frameOf("\x07" + p + "text"),
		"a place without its bytes":        frameOf(e + "\x01"),
		"a place without its last byte":    frameOf(e + "\x04\x01\x02\x03"),
		"a place that begins with 0":       frameOf(e + string(rune(len(digits)+1)) + "\x00" + digits + "text"),
		"a place of 5 bytes":               frameOf(e + "\x05" + strings.Repeat("\x00", 5-len(digits)) + digits + "text"),
		"a place of 255 bytes":             frameOf(e + "\xff" + strings.Repeat("\x00", 200)),
		"a place of another form of no 0":  frameOf(e + "\x01\x00" + "text"),
		"a text of 201 bytes":              recordOf(7, place, text201),
		"a text of 202 bytes":              recordOf(7, place, text201+"x"),
		"a text of 240 bytes":              recordOf(7, place, text200+text200[:40]),
		"a text of 201 bytes of 0":         recordOf(7, place, strings.Repeat("\x00", 201)),
		"a text of 101 letters":            recordOf(7, place, strings.Repeat("é", 101)),
		"the place, and then the epoch":    frameOf(numberBytes(place+1000) + e + "text"),
		"the epoch twice":                  recordOf(7, 7, "text"),
		"the next place":                   recordOf(7, place+1, "text"),
		"the last place":                   recordOf(7, 199, "text"),
		"a place behind the last":          recordOf(7, 200, "text"),
		"a place 256 greater":              recordOf(7, place+256, "text"),
		"a place 65536 greater":            recordOf(7, place+65536, "text"),
		"the greatest place":               recordOf(7, api.MaxNumber, "text"),
		"the next place, without a text":   recordOf(7, place+1, ""),
		"another epoch, without a text":    recordOf(8, place, ""),
		"another epoch and another place":  recordOf(8, place+1, "text"),
		"a record of a text that is a log": frameOf(e + r),
	}
	if place > 0 {
		m["the place ahead"] = recordOf(7, place-1, "text")
		m["the first place"] = recordOf(7, 0, "text")
	}
	for _, epoch := range []int{0, 1, 6, 8, 263, 1792, 65543, 458752, lastEpoch, lastEpoch + 1, lastEpoch + 7, api.MaxNumber} {
		m["epoch "+strconv.Itoa(epoch)] = recordOf(epoch, place, "text")
	}
	return m
}

// endedLogs are logs of epoch 7 that a block ends which says no record of its place: first, between records, last, and where it waits.
func endedLogs() map[string]model {
	m := map[string]model{}
	for place := range 4 {
		for name, s := range noRecords(place) {
			for _, from := range []int{0, 2} {
				x := greatLog(from+4, from, 7, 4)
				x.d.Blocks[from+place] = s
				x.l = x.l[:place]
				name := "block " + strconv.Itoa(from+place) + " from " + strconv.Itoa(from) + ": " + name
				m[name] = x
				y := greatLog(from+4, from, 7, 4)
				y.d = waiting(y.d, api.Write{At: from + place, Text: s})
				y.l = y.l[:place]
				m[name+", waits"] = y
				z := greatLog(from+4, from, 7, 4)
				z.d.Blocks[from+place] = s
				z.d = waiting(z.d, api.Write{At: from + place, Text: recordOf(7, place, "late")})
				z.l[place] = "late"
				m[name+", to be written over"] = z
			}
		}
	}
	return m
}

// wholeLogs are ordinary ones, and each edge of where a log is, of its epoch, of its texts and of what waits.
func wholeLogs() map[string]model {
	a, b, none := recordOf(7, 0, "a"), recordOf(7, 1, "b"), []string(nil)
	two := []string{"a", "b"}
	m := map[string]model{
		"one block":                     {blocks(""), 0, 7, none},
		"one block, a record":           {blocks(a), 0, 7, []string{"a"}},
		"new, from 0":                   {blocks(empty(5)...), 0, 7, none},
		"new, from 2":                   {blocks(empty(5)...), 2, 7, none},
		"new, from the last":            {blocks(empty(5)...), 4, 7, none},
		"new, of epoch 0":               {blocks(empty(5)...), 0, 0, none},
		"odd, of epoch 0":               {blocks("odd", frameOf(""), ""), 0, 0, none},
		"a frame of nothing, epoch 0":   {blocks(frameOf(""), ""), 0, 0, none},
		"two records":                   {blocks(a, b, "", ""), 0, 7, two},
		"two records from 2":            {blocks("", "", a, b, ""), 2, 7, two},
		"others ahead":                  {blocks(recordOf(7, 0, "o"), recordOf(7, 1, "p"), a, b, ""), 2, 7, two},
		"odd ones ahead":                {blocks("odd", strings.Repeat("x", 256), a, b, ""), 2, 7, two},
		"a log ahead that goes on":      {blocks(recordOf(7, 0, "o"), recordOf(7, 1, "p"), recordOf(7, 2, "q")), 2, 7, none},
		"a log behind":                  {blocks(a, b, recordOf(7, 0, "o"), recordOf(7, 1, "p")), 0, 7, two},
		"the log behind of two":         {blocks(a, b, recordOf(7, 0, "o"), recordOf(7, 1, "p")), 2, 7, []string{"o", "p"}},
		"inside a log":                  {blocks(a, b, recordOf(7, 2, "c"), ""), 1, 7, none},
		"no room":                       {blocks("", a, b), 1, 7, two},
		"no room from the last":         {blocks("", "", a), 2, 7, []string{"a"}},
		"room for one":                  {blocks("", a, b, ""), 1, 7, two},
		"room for one from the last":    {blocks("", "", "odd"), 2, 7, none},
		"one text twice":                {blocks(a, recordOf(7, 1, "a"), ""), 0, 7, []string{"a", "a"}},
		"texts that rise and fall":      {blocks(recordOf(7, 0, "c"), recordOf(7, 1, "a"), recordOf(7, 2, "b"), ""), 0, 7, []string{"c", "a", "b"}},
		"empty texts":                   {blocks(recordOf(7, 0, ""), recordOf(7, 1, ""), ""), 0, 7, []string{"", ""}},
		"an empty text between":         {blocks(a, recordOf(7, 1, ""), recordOf(7, 2, "c"), ""), 0, 7, []string{"a", "", "c"}},
		"a text of 199":                 {blocks(recordOf(7, 0, text200[1:]), ""), 0, 7, []string{text200[1:]}},
		"a text of 200":                 {blocks(recordOf(7, 0, text200), ""), 0, 7, []string{text200}},
		"texts of 200 to the end":       {blocks(recordOf(7, 0, text200), recordOf(7, 1, text200)), 0, 7, []string{text200, text200}},
		"100 letters of two bytes":      {blocks(recordOf(7, 0, strings.Repeat("é", 100)), ""), 0, 7, []string{strings.Repeat("é", 100)}},
		"a text of any bytes":           {blocks(recordOf(7, 0, "\x00\xff\x00"), b, ""), 0, 7, []string{"\x00\xff\x00", "b"}},
		"a text that is a number":       {blocks(recordOf(7, 0, "\x01\x01"), b, ""), 0, 7, []string{"\x01\x01", "b"}},
		"a text that is a cut number":   {blocks(recordOf(7, 0, "\x04\x01"), b, ""), 0, 7, []string{"\x04\x01", "b"}},
		"a text that is a 0":            {blocks(recordOf(7, 0, "\x00"), b, ""), 0, 7, []string{"\x00", "b"}},
		"a text that is a record":       {blocks(recordOf(7, 0, b), b, ""), 0, 7, []string{b, "b"}},
		"another epoch":                 {blocks(a, b, ""), 0, 8, none},
		"an epoch ahead":                {blocks(a, b, ""), 0, 6, none},
		"epoch 0 of 7":                  {blocks(a, b, ""), 0, 0, none},
		"the last epoch of 7":           {blocks(a, b, ""), 0, lastEpoch, none},
		"another epoch behind":          {blocks(a, recordOf(6, 1, "old"), recordOf(6, 2, "older")), 0, 7, []string{"a"}},
		"another epoch's beginning":     {blocks(a, recordOf(6, 1, "old"), recordOf(6, 2, "older")), 0, 6, none},
		"epoch by epoch":                {blocks(recordOf(5, 0, "five"), recordOf(6, 1, "six"), recordOf(7, 2, "seven")), 0, 5, []string{"five"}},
		"another epoch's place":         {blocks(a, recordOf(1, 7, "old"), recordOf(7, 2, "c")), 0, 7, []string{"a"}},
		"its epoch as a place":          {blocks(recordOf(0, 7, "old"), ""), 0, 7, none},
		"a record waits":                {waiting(blocks(a, "", ""), api.Write{At: 1, Text: b}), 0, 7, two},
		"all records wait":              {waiting(blocks("", "", ""), api.Write{At: 0, Text: a}, api.Write{At: 1, Text: b}), 0, 7, two},
		"they wait the other way round": {waiting(blocks("", "", ""), api.Write{At: 1, Text: b}, api.Write{At: 0, Text: a}), 0, 7, two},
		"another record waits":          {waiting(blocks(a, b, ""), api.Write{At: 0, Text: recordOf(7, 0, "new")}), 0, 7, []string{"new", "b"}},
		"a record waits to be lost":     {waiting(blocks(a, b, ""), api.Write{At: 1, Text: ""}), 0, 7, []string{"a"}},
		"the first waits to be lost":    {waiting(blocks(a, b, ""), api.Write{At: 0, Text: "odd"}), 0, 7, none},
		"the last that waits counts":    {waiting(blocks(a, ""), api.Write{At: 1, Text: recordOf(7, 1, "o")}, api.Write{At: 1, Text: "odd"}, api.Write{At: 1, Text: b}), 0, 7, two},
		"a write ahead waits":           {waiting(blocks("", a, ""), api.Write{At: 0, Text: a}), 1, 7, []string{"a"}},
		"a record behind none":          {blocks(a, "", recordOf(7, 2, "c"), recordOf(7, 3, "d"), ""), 0, 7, []string{"a"}},
		"all but the first":             {blocks("", b, recordOf(7, 2, "c")), 0, 7, none},
		"a record behind none waits":    {waiting(blocks(a, "", "", ""), api.Write{At: 2, Text: recordOf(7, 2, "c")}), 0, 7, []string{"a"}},
		"200 blocks, new":               greatLog(200, 0, 7, 0),
		"200 blocks, from the last":     greatLog(200, 199, 7, 0),
		"200 blocks, one in the last":   greatLog(200, 199, 7, 1),
		"200 blocks, 199 records":       greatLog(200, 0, 7, 199),
		"200 blocks, 200 records":       greatLog(200, 0, 7, 200),
		"200 blocks, from 100":          greatLog(200, 100, 7, 42),
	}
	for _, epoch := range []int{0, 1, 2, 255, 256, 257, 65535, 65536, 16777215, 16777216, lastEpoch - 1, lastEpoch} {
		m["epoch "+strconv.Itoa(epoch)] = greatLog(6, 1, epoch, 3)
		x := greatLog(6, 1, epoch, 2)
		x.d.Blocks[3] = recordOf(epoch+1, 2, "next")
		m["epoch "+strconv.Itoa(epoch)+" ahead of another"] = x
	}
	for _, n := range []int{1, 50, 97, 98, 99, 100} {
		m[strconv.Itoa(n)+" wait"] = model{filled(blocks("", a, b, "", "", ""), 0, n), 1, 7, two}
		m[strconv.Itoa(n)+" wait for a record"] = model{filled(blocks("", a, b, "", "", ""), 2, n), 1, 7, two}
	}
	return m
}

func logs() map[string]model {
	m := wholeLogs()
	for name, x := range endedLogs() {
		m[name] = x
	}
	return m
}

// wrongDisks are not right.
func wrongDisks() map[string]api.Disk {
	a := recordOf(7, 0, "a")
	return map[string]api.Disk{
		"no blocks":               {},
		"no blocks, but a write":  {Wait: []api.Write{{At: 0, Text: a}}},
		"201 blocks":              blocks(empty(201)...),
		"a block of 257 bytes":    blocks(a, "", strings.Repeat("x", 257)),
		"a record of 257 bytes":   blocks(recordOf(7, 0, strings.Repeat("x", 248)), ""),
		"101 writes":              filled(blocks(a, ""), 1, 101),
		"a write at -1":           {Blocks: []string{a, ""}, Wait: []api.Write{{At: -1}}},
		"a write behind the last": {Blocks: []string{a, ""}, Wait: []api.Write{{At: 2}}},
		"a text of 257 bytes":     {Blocks: []string{a, ""}, Wait: []api.Write{{At: 1, Text: strings.Repeat("x", 257)}}},
		"not right, and no room":  {Blocks: []string{a}, Wait: []api.Write{{At: 1}}},
	}
}

func show(d api.Disk) string {
	var b strings.Builder
	for _, s := range d.Blocks {
		b.WriteString(strconv.Quote(short(s)) + " ")
	}
	b.WriteString("wait:")
	for _, w := range d.Wait {
		b.WriteString(" " + strconv.Itoa(w.At) + " " + strconv.Quote(short(w.Text)))
	}
	return short(b.String())
}

// short cuts a long text so that a failure can be read.
func short(s string) string {
	if len(s) > 400 {
		return s[:400] + ".."
	}
	return s
}

func texts(l []string) string {
	var b strings.Builder
	for _, s := range l[:min(len(l), 20)] {
		b.WriteString(strconv.Quote(s) + " ")
	}
	return strconv.Itoa(len(l)) + " texts " + short(b.String())
}

func same(a, b api.Disk) bool {
	return slices.Equal(a.Blocks, b.Blocks) && slices.Equal(a.Wait, b.Wait)
}

func none(d api.Disk) bool { return len(d.Blocks) == 0 && len(d.Wait) == 0 }

// checkLog holds Open and Room against a log's records.
func checkLog(t *testing.T, what string, m model) {
	t.Helper()
	if l, e := wal.Open(m.d, m.from, m.epoch); e != api.OK || !slices.Equal(l, m.l) {
		t.Errorf("%s: Open from %d of %d of %s: %s, %d; want %s", what, m.from, m.epoch, show(m.d), texts(l), e, texts(m.l))
	}
	if n, e := wal.Room(m.d, m.from, m.epoch); e != api.OK || n != m.room() {
		t.Errorf("%s: Room from %d of %d of %s: %d, %d; want %d", what, m.from, m.epoch, show(m.d), n, e, m.room())
	}
}

func checkAppend(t *testing.T, what string, m model, s string, want api.Disk) {
	t.Helper()
	if f, e := wal.Append(m.d, m.from, m.epoch, s); e != api.OK || !same(f, want) {
		t.Errorf("%s: Append %q from %d of %d to %s: %s, %d; want %s", what, short(s), m.from, m.epoch, show(m.d), show(f), e, show(want))
	}
}

func checkAppendRefused(t *testing.T, what string, m model, s string, want api.Errno) {
	t.Helper()
	if f, e := wal.Append(m.d, m.from, m.epoch, s); e != want || !none(f) {
		t.Errorf("%s: Append %q from %d of %d to %s: %s, %d; want no disk, %d", what, short(s), m.from, m.epoch, show(m.d), show(f), e, want)
	}
}

func checkAll(t *testing.T, what string, m model, l []string, deeds int, want api.Disk, wantDone bool) {
	t.Helper()
	f, done, e := wal.All(m.d, m.from, m.epoch, l, deeds)
	if e != api.OK || !same(f, want) || done != wantDone {
		t.Errorf("%s: All of %s with %d to %s: %s, %v, %d; want %s, %v", what, texts(l), deeds, show(m.d), show(f), done, e, show(want), wantDone)
	}
}

func checkAllRefused(t *testing.T, what string, m model, l []string, deeds int, want api.Errno) {
	t.Helper()
	f, done, e := wal.All(m.d, m.from, m.epoch, l, deeds)
	if e != want || done || !none(f) {
		t.Errorf("%s: All of %s with %d to %s: %s, %v, %d; want no disk, false, %d", what, texts(l), deeds, show(m.d), show(f), done, e, want)
	}
}

// checkRefused asks for one refusal by every call, whatever is to be appended.
func checkRefused(t *testing.T, what string, m model, want api.Errno) {
	t.Helper()
	if l, e := wal.Open(m.d, m.from, m.epoch); e != want || len(l) != 0 {
		t.Errorf("%s: Open from %d of %d of %s: %s, %d; want none, %d", what, m.from, m.epoch, show(m.d), texts(l), e, want)
	}
	if n, e := wal.Room(m.d, m.from, m.epoch); e != want || n != 0 {
		t.Errorf("%s: Room from %d of %d of %s: %d, %d; want 0, %d", what, m.from, m.epoch, show(m.d), n, e, want)
	}
	for _, s := range []string{"", "a", text200, text201} {
		checkAppendRefused(t, what, m, s, want)
	}
	for _, l := range [][]string{nil, {"a"}, {"a", "b"}, {text201}, many(201)} {
		for _, deeds := range []int{math.MinInt, -1, 0, 1, len(l), len(l) + 1, len(l) + 2, math.MaxInt} {
			checkAllRefused(t, what, m, l, deeds, want)
		}
	}
}

// upTo is the numbers from the first to the last one.
func upTo(first, last int) []int {
	var l []int
	for n := first; n <= last; n++ {
		l = append(l, n)
	}
	return l
}

// deedsOf is each number of deeds of an All of so many texts, and some beside them.
func deedsOf(texts int) []int {
	l := []int{math.MinInt, -2, -1, texts + 2, texts + 3, math.MaxInt}
	if texts > 20 {
		return append(l, 0, 1, texts/2, texts-1, texts, texts+1)
	}
	return append(l, upTo(0, texts+1)...)
}

func appended(t *testing.T, d api.Disk, from, epoch int, l ...string) api.Disk {
	t.Helper()
	for _, s := range l {
		f, e := wal.Append(d, from, epoch, s)
		if e != api.OK {
			t.Fatalf("P7.2: Append %q from %d of %d to %s: error %d", short(s), from, epoch, show(d), e)
		}
		d = f
	}
	return d
}

func all(t *testing.T, m model, l []string, deeds int) api.Disk {
	t.Helper()
	f, _, e := wal.All(m.d, m.from, m.epoch, l, deeds)
	if e != api.OK {
		t.Fatalf("P7.3: All of %s with %d to %s: error %d", texts(l), deeds, show(m.d), e)
	}
	return f
}

func crash(t *testing.T, d api.Disk, keep []bool) api.Disk {
	t.Helper()
	f, e := disk.Crash(d, keep)
	if e != api.OK {
		t.Fatalf("Crash of %s: error %d", show(d), e)
	}
	return f
}

// behindAppend is m's disk behind an Append, by the document's words.
func behindAppend(m model, s string) api.Disk {
	n := len(m.l)
	return waiting(m.d, api.Write{At: m.from + n, Text: recordOf(m.epoch, n, s)})
}

// behindDeeds is m's disk behind so many deeds of an All, by the document's words; an error, if there is one of a deed.
func behindDeeds(m model, l []string, deeds int) (api.Disk, bool, api.Errno) {
	for i, s := range l {
		switch {
		case i == deeds:
			return m.d, false, api.OK
		case len(s) > 200:
			return api.Disk{}, false, api.ErrLimit
		case m.room() == 0 || len(m.d.Wait) == 100:
			return api.Disk{}, false, api.ErrSpace
		}
		m.d = behindAppend(m, s)
		m.l = logOf(m.d, m.from, m.epoch)
	}
	if len(l) == deeds {
		return m.d, false, api.OK
	}
	return synced(m.d), true, api.OK
}

func TestExamples(t *testing.T) {
	d, _ := disk.New(5)
	d = appended(t, d, 2, 1, "a", "b")
	checkLog(t, "P7.1", model{d, 2, 1, []string{"a", "b"}})
	checkLog(t, "P7.4", model{d, 2, 2, nil})
	checkLog(t, "P7.4", model{crash(t, d, []bool{false, true}), 2, 1, nil})
}

// What blocks say stands here by hand: the other tests make it by recordOf.
func TestRecordsWrittenByHand(t *testing.T) {
	for _, x := range []struct {
		epoch, place int
		s            string
		record       string
	}{
		{1, 0, "a", "\xa2\x8f\x83\x80\x01\x04\x01\x01\x00a"},
		{1, 1, "b", "\xf8\x9b\xe2\xca\x01\x05\x01\x01\x01\x01b"},
		{0, 0, "", "\x41\xd9\x12\xff\x01\x02\x00\x00"},
		{256, 199, "", "\x18\x45\xa5\x4a\x01\x05\x02\x01\x00\x01\xc7"},
		{lastEpoch, 2, "end", "\xf8\xfc\xf5\x67\x01\x0a\x04\x3b\x9a\xca\x00\x01\x02end"},
	} {
		if x.record != recordOf(x.epoch, x.place, x.s) {
			t.Errorf("recordOf(%d, %d, %q) is %q; want %q", x.epoch, x.place, x.s, recordOf(x.epoch, x.place, x.s), x.record)
		}
		m := greatLog(x.place+1, 0, x.epoch, x.place)
		want := waiting(m.d, api.Write{At: x.place, Text: x.record})
		checkAppend(t, "P7.2", m, x.s, want)
		checkLog(t, "P7.1", model{synced(want), 0, x.epoch, append(m.l, x.s)})
	}
}

func TestOpenAndRoom(t *testing.T) {
	for name, m := range logs() {
		checkLog(t, "P7.1: "+name, m)
		if l := logOf(m.d, m.from, m.epoch); !slices.Equal(l, m.l) {
			t.Errorf("logOf %s: %s; want %s", name, texts(l), texts(m.l))
		}
	}
}

// Each block may be a log's first one, and each number of records is counted.
func TestEveryFrom(t *testing.T) {
	for _, size := range []int{1, 2, 5, 50, 199, 200} {
		for from := range size {
			n := (size - from) / 2
			for _, n := range []int{0, n, size - from} {
				m := greatLog(size, from, 3, n)
				checkLog(t, "P7.1: every from", m)
				if n < size-from {
					checkAppend(t, "P7.2: every from", m, "new", behindAppend(m, "new"))
				} else {
					checkAppendRefused(t, "P7.2: every from", m, "new", api.ErrSpace)
				}
			}
		}
	}
}

// ErrArg is told ahead of a block that there is not, and both ahead of all else.
func TestWrongArguments(t *testing.T) {
	epochs := []int{math.MinInt, -1 << 32, -2, -1, lastEpoch + 1, lastEpoch + 2, api.MaxNumber, 1 << 32, 1<<32 + 7, math.MaxInt}
	froms := func(d api.Disk) []int {
		n := len(d.Blocks)
		return []int{math.MinInt, -1 << 32, -200, -2, -1, n, n + 1, n + 200, 201, 1 << 32, math.MaxInt - 1, math.MaxInt}
	}
	for name, d := range wrongDisks() {
		for _, from := range append(froms(d), 0, 1) {
			for _, epoch := range append(epochs, 0, 7, lastEpoch) {
				checkRefused(t, "not right: "+name, model{d, from, epoch, nil}, api.ErrArg)
			}
		}
	}
	for _, d := range []api.Disk{blocks(""), blocks(recordOf(7, 0, "a"), ""), blocks(recordOf(7, 0, "a")), greatLog(200, 0, 7, 200).d, filled(blocks("", ""), 1, 100)} {
		for _, from := range append(froms(d), 0, len(d.Blocks)-1) {
			for _, epoch := range epochs {
				checkRefused(t, "no epoch", model{d, from, epoch, nil}, api.ErrArg)
			}
		}
		for _, from := range froms(d) {
			for _, epoch := range []int{0, 1, 7, lastEpoch - 1, lastEpoch} {
				checkRefused(t, "no block", model{d, from, epoch, nil}, api.ErrDisk)
			}
		}
	}
}

func TestAppend(t *testing.T) {
	for name, m := range logs() {
		for _, s := range []string{"", "new", "\x00\xff", "\x01\x01", recordOf(7, 0, "a"), text200[1:], text200, strings.Repeat("é", 100)} {
			if m.room() == 0 || len(m.d.Wait) == 100 {
				checkAppendRefused(t, "P7.2: "+name, m, s, api.ErrSpace)
				continue
			}
			checkAppend(t, "P7.2: "+name, m, s, behindAppend(m, s))
		}
	}
}

// A text that is too long is told ahead of room that there is not, on the disk or for its writes.
func TestTextTooLong(t *testing.T) {
	for name, m := range logs() {
		for _, s := range []string{text201, strings.Repeat("é", 101), strings.Repeat("\x00", 256), strings.Repeat("x", 4001)} {
			checkAppendRefused(t, "P7.2: "+name, m, s, api.ErrLimit)
			checkAllRefused(t, "P7.3: "+name, m, []string{s, "a"}, -1, api.ErrLimit)
		}
	}
	checkAppendRefused(t, "P7.2: of 1 MiB", greatLog(3, 0, 7, 1), strings.Repeat("x", 1<<20), api.ErrLimit)
	full := model{filled(greatLog(3, 0, 7, 3).d, 0, 100), 0, 7, many(3)}
	checkAppendRefused(t, "P7.2: no room, and 100 wait", full, text201, api.ErrLimit)
	checkAppendRefused(t, "P7.2: no room, and 100 wait", full, text200, api.ErrSpace)
}

func TestNoRoom(t *testing.T) {
	for _, size := range []int{1, 2, 3, 50, 100, 200} {
		for _, from := range []int{0, size / 2, size - 1} {
			m := greatLog(size, from, 7, size-from-1)
			checkLog(t, "P7.1: room for one", m)
			checkAppend(t, "P7.2: room for one", m, "last", behindAppend(m, "last"))
			m = model{appended(t, m.d, from, 7, "last"), from, 7, append(m.l, "last")}
			checkLog(t, "P7.1: no room", m)
			checkAppendRefused(t, "P7.2: no room", m, "", api.ErrSpace)
			other := model{m.d, from, 8, nil}
			checkAppend(t, "P7.2: room in another epoch", other, "a", behindAppend(other, "a"))
		}
	}
	for _, wait := range []int{97, 98, 99} {
		m := greatLog(200, 3, 7, 5)
		m.d = filled(m.d, 0, wait)
		for i := wait; i < 100; i++ {
			checkAppend(t, "P7.2: "+strconv.Itoa(i)+" wait", m, "a", behindAppend(m, "a"))
			m = model{appended(t, m.d, 3, 7, "a"), 3, 7, append(m.l, "a")}
		}
		checkLog(t, "P7.1: 100 wait", m)
		checkAppendRefused(t, "P7.2: 100 wait", m, "a", api.ErrSpace)
	}
}

// rows are what is appended to a log with so much room: some, and each edge.
func rows(room int) [][]string {
	l := [][]string{nil, {}, {"a"}, {""}, {"new", "er"}, {"same", "same", "same"}, {"", "\x00\xff", recordOf(7, 0, "c")}, {text200, text200[1:], text200, text200}}
	for _, n := range []int{room - 1, room, room + 1} {
		if n > 4 && n < 12 || n > 96 && n < 102 {
			l = append(l, many(n))
		}
	}
	for i := range 4 {
		l = append(l, slices.Insert([]string{"a", "b", "c"}, i, text201))
	}
	return l
}

func checkAllOf(t *testing.T, what string, m model, l []string) {
	t.Helper()
	for _, deeds := range deedsOf(len(l)) {
		want, done, e := behindDeeds(m, l, deeds)
		if e != api.OK {
			checkAllRefused(t, what, m, l, deeds, e)
		} else {
			checkAll(t, what, m, l, deeds, want, done)
		}
	}
}

func TestAll(t *testing.T) {
	for name, m := range wholeLogs() {
		for _, l := range rows(m.room()) {
			checkAllOf(t, "P7.3: "+name, m, l)
		}
	}
	for name, m := range endedLogs() {
		checkAllOf(t, "P7.3: "+name, m, []string{"new", text200, text201})
	}
	for _, wait := range []int{0, 1, 96, 97, 98, 99, 100} {
		for _, n := range []int{0, 1, 2, 3, 4, 5, 99, 100, 101} {
			m := greatLog(200, 0, 7, 3)
			m.d = filled(m.d, 0, wait)
			checkAllOf(t, "P7.3: "+strconv.Itoa(wait)+" wait", m, many(n))
		}
	}
}

// What an All is by itself, without the account of behindDeeds.
func TestAllByHand(t *testing.T) {
	a, b := recordOf(1, 0, "a"), recordOf(1, 1, "b")
	m := model{blocks("o", "", "", ""), 1, 1, nil}
	ab := []string{"a", "b"}
	checkAll(t, "P7.3", m, ab, 0, blocks("o", "", "", ""), false)
	checkAll(t, "P7.3", m, ab, 1, waiting(m.d, api.Write{At: 1, Text: a}), false)
	checkAll(t, "P7.3", m, ab, 2, waiting(m.d, api.Write{At: 1, Text: a}, api.Write{At: 2, Text: b}), false)
	for _, deeds := range []int{-1, 3, 4, math.MinInt, math.MaxInt} {
		checkAll(t, "P7.3", m, ab, deeds, blocks("o", a, b, ""), true)
	}
	m.d = waiting(m.d, api.Write{At: 0, Text: "p"})
	checkAll(t, "P7.3: no text", m, nil, 0, m.d, false)
	for _, deeds := range []int{-1, 1, 2} {
		checkAll(t, "P7.3: no text", m, nil, deeds, blocks("p", "", "", ""), true)
	}
	one := model{blocks("o", recordOf(1, 0, "x"), recordOf(1, 1, "y"), ""), 1, 1, []string{"x", "y"}}
	checkAll(t, "P7.3: room for one", one, ab, 0, one.d, false)
	checkAll(t, "P7.3: room for one", one, ab, 1, waiting(one.d, api.Write{At: 3, Text: recordOf(1, 2, "a")}), false)
	checkAll(t, "P7.3: room for one", one, []string{"a"}, -1, blocks("o", one.d.Blocks[1], one.d.Blocks[2], recordOf(1, 2, "a")), true)
	for _, deeds := range []int{-1, 2, 3, 4} {
		checkAllRefused(t, "P7.3: room for one", one, ab, deeds, api.ErrSpace)
		checkAllRefused(t, "P7.3: a long one behind", m, []string{"a", text201}, deeds, api.ErrLimit)
		checkAllRefused(t, "P7.3: room first", one, []string{"a", "b", text201}, deeds, api.ErrSpace)
		checkAllRefused(t, "P7.3: a long one first", one, []string{text201, "b", "c"}, deeds, api.ErrLimit)
		checkAllRefused(t, "P7.3: a long one without room", one, []string{"a", text201}, deeds, api.ErrLimit)
	}
	checkAll(t, "P7.3: a long one behind", m, []string{"a", text201}, 1, waiting(m.d, api.Write{At: 1, Text: a}), false)
	checkAll(t, "P7.3: a long one, not done", m, []string{text201}, 0, m.d, false)
	great := make([]string, 1<<20)
	checkAll(t, "P7.3: many texts", m, great, 0, m.d, false)
	checkAllRefused(t, "P7.3: many texts", m, great, -1, api.ErrSpace)
}

// A record of its epoch and place behind a block that says none belongs to the log again as soon as the block says one.
func TestRecordsFoundAgain(t *testing.T) {
	a, c, d := recordOf(7, 0, "a"), recordOf(7, 2, "c"), recordOf(7, 3, "d")
	m := model{blocks(a, "", c, d, ""), 0, 7, []string{"a"}}
	checkLog(t, "P7.1", m)
	f := appended(t, m.d, 0, 7, "new")
	checkLog(t, "P7.1", model{f, 0, 7, []string{"a", "new", "c", "d"}})
	checkAll(t, "P7.3", m, []string{"new", "er"}, -1, blocks(a, recordOf(7, 1, "new"), c, d, recordOf(7, 4, "er")), true)
	checkAllRefused(t, "P7.3", m, []string{"new", "er", "est"}, -1, api.ErrSpace)
	lost := crash(t, appended(t, blocks("", "", ""), 0, 7, "a", "b"), []bool{false, true})
	checkLog(t, "P7.4", model{lost, 0, 7, nil})
	checkLog(t, "P7.4", model{appended(t, lost, 0, 7, "x"), 0, 7, []string{"x", "b"}})
	checkLog(t, "P7.4", model{appended(t, lost, 0, 8, "x"), 0, 8, []string{"x"}})
}

// clean tells whether no block behind the log says a record of the epoch at its place, now or when what waits for it is lost.
func clean(m model) bool {
	for at := m.from + len(m.l); at < len(m.d.Blocks); at++ {
		said := []string{m.d.Blocks[at]}
		for _, w := range m.d.Wait {
			if w.At == at {
				said = append(said, w.Text)
			}
		}
		for _, s := range said {
			if _, ok := recordText(s, m.epoch, at-m.from); ok {
				return false
			}
		}
	}
	return true
}

func TestWhatIsAppendedIsRead(t *testing.T) {
	for name, m := range logs() {
		if !clean(m) {
			continue
		}
		for _, s := range []string{"a", "", "a", text200, recordOf(7, 0, "a"), "\x00", "\x01\x07", "é"} {
			if m.room() == 0 || len(m.d.Wait) == 100 {
				break
			}
			before := m.d
			m.d, m.l = appended(t, m.d, m.from, m.epoch, s), append(slices.Clone(m.l), s)
			checkLog(t, "P7.4: "+name, m)
			for at := range m.d.Blocks {
				if at != m.from+len(m.l)-1 && says(m.d, at) != says(before, at) {
					t.Errorf("P7.4: %s: block %d says %q; want %q", name, at, short(says(m.d, at)), short(says(before, at)))
				}
			}
		}
		f := m
		f.d = all(t, m, nil, -1)
		for _, keep := range [][]bool{nil, {true, true}} {
			f.d = crash(t, f.d, keep)
			checkLog(t, "P7.4: synced: "+name, f)
		}
	}
}

// keeps is every row of so many bools (of more than 6 those that repeat each 6), none, and one more than there are.
func keeps(n int) [][]bool {
	l := [][]bool{nil, slices.Repeat([]bool{true}, n+1)}
	for mask := range 1 << min(n, 6) {
		var keep []bool
		for i := range n {
			keep = append(keep, mask>>(i%6)&1 == 1)
		}
		l = append(l, keep)
	}
	return l
}

// leading is how many of the first bools are true.
func leading(keep []bool, n int) int {
	for i := range n {
		if i >= len(keep) || !keep[i] {
			return i
		}
	}
	return n
}

// Behind a crash there are the records that were synced, and of those that were appended behind them as many as were kept, up to the first one lost.
func TestEveryCrashBehindAll(t *testing.T) {
	for name, m := range logs() {
		if !clean(m) || len(m.d.Wait) > 0 {
			continue
		}
		for _, l := range [][]string{nil, {"a"}, {"a", "b"}, {"c", "", text200}, many(7), many(100)} {
			if len(l) > m.room() {
				continue
			}
			for _, deeds := range deedsOf(len(l)) {
				f := all(t, m, l, deeds)
				for _, keep := range keeps(len(f.Wait)) {
					n := leading(keep, len(f.Wait))
					if len(f.Wait) == 0 && (deeds < 0 || deeds > len(l)) {
						n = len(l)
					}
					c := model{crash(t, f, keep), m.from, m.epoch, append(slices.Clone(m.l), l[:n]...)}
					checkLog(t, "P7.4: "+name, c)
					if m.epoch < lastEpoch && len(logOf(m.d, m.from, m.epoch+1)) == 0 {
						checkLog(t, "P7.4: another epoch: "+name, model{c.d, m.from, m.epoch + 1, nil})
					}
				}
			}
		}
	}
}

// Where appended records wait still, an All goes on from them: what it syncs holds them too.
func TestCrashBehindAllBehindAppends(t *testing.T) {
	base := greatLog(12, 1, 7, 2)
	for ahead := range 4 {
		l := many(ahead + 3)
		m := model{appended(t, base.d, 1, 7, l[:ahead]...), 1, 7, append(slices.Clone(base.l), l[:ahead]...)}
		checkLog(t, "P7.4", m)
		for deeds := range 5 {
			f := all(t, m, l[ahead:], deeds)
			for _, keep := range keeps(len(f.Wait)) {
				n := leading(keep, len(f.Wait))
				if deeds == 4 {
					n = len(l)
				}
				checkLog(t, "P7.4", model{crash(t, f, keep), 1, 7, append(slices.Clone(base.l), l[:n]...)})
			}
		}
	}
}

// Crash upon crash, each followed by the next epoch: nothing of the epochs before is read in it, or of it in them but their beginnings.
func TestEpochUponEpoch(t *testing.T) {
	var goOn func(d api.Disk, epoch, more int)
	goOn = func(d api.Disk, epoch, more int) {
		checkLog(t, "P7.4: a new epoch", model{d, 1, epoch, nil})
		if more == 0 {
			return
		}
		l := slices.Repeat([]string{"epoch " + strconv.Itoa(epoch)}, more)
		for deeds := range len(l) + 2 {
			f := all(t, model{d, 1, epoch, nil}, l, deeds)
			for mask := range 1 << len(f.Wait) {
				var keep []bool
				for i := range f.Wait {
					keep = append(keep, mask>>i&1 == 1)
				}
				n := leading(keep, len(f.Wait))
				if deeds > len(l) {
					n = len(l)
				}
				c := crash(t, f, keep)
				checkLog(t, "P7.4: its epoch", model{c, 1, epoch, l[:n]})
				goOn(c, epoch+1, more-1)
			}
		}
	}
	goOn(blocks("odd", "", "", "", ""), 0, 4)
	goOn(blocks("odd", "", "", "", ""), 254, 4)
	goOn(blocks(recordOf(2, 0, "old"), recordOf(2, 0, "old"), recordOf(2, 1, "old"), "", ""), lastEpoch-3, 3)
}

// Two logs share a disk: the one from the greater block is the other's last blocks, which it writes over.
func TestTwoLogs(t *testing.T) {
	d := appended(t, blocks(empty(5)...), 0, 7, "a", "b")
	d = appended(t, d, 3, 7, "o", "p")
	checkLog(t, "P7.1: the first", model{d, 0, 7, []string{"a", "b"}})
	checkLog(t, "P7.1: the second", model{d, 3, 7, []string{"o", "p"}})
	d = appended(t, d, 0, 7, "c")
	checkLog(t, "P7.1: up to the second", model{d, 0, 7, []string{"a", "b", "c"}})
	checkLog(t, "P7.1: the second", model{d, 3, 7, []string{"o", "p"}})
	d = appended(t, d, 0, 7, "d")
	checkLog(t, "P7.1: over the second", model{d, 0, 7, []string{"a", "b", "c", "d"}})
	checkLog(t, "P7.1: the second", model{d, 3, 7, nil})
}

// roomy is d on memory that has room behind its slices: there too nothing is to be written.
func roomy(d api.Disk) api.Disk {
	b := append(slices.Clone(d.Blocks), "behind", "behind")
	w := append(slices.Clone(d.Wait), api.Write{At: 7, Text: "behind"}, api.Write{At: 7, Text: "behind"})
	return api.Disk{Blocks: b[:len(d.Blocks)], Wait: w[:len(d.Wait)]}
}

// whole is roomy's disk with what stands in the room behind its slices.
func whole(d api.Disk) api.Disk {
	return api.Disk{Blocks: d.Blocks[:len(d.Blocks)+2], Wait: d.Wait[:len(d.Wait)+2]}
}

// overwrite changes all that an answer holds, and the room behind it.
func overwrite(d api.Disk) {
	for i := range d.Blocks[:cap(d.Blocks)] {
		d.Blocks[:cap(d.Blocks)][i] = "changed"
	}
	for i := range d.Wait[:cap(d.Wait)] {
		d.Wait[:cap(d.Wait)][i] = api.Write{At: 9, Text: "changed"}
	}
}

// answer is all that the calls tell of a log.
type answer struct {
	disks []api.Disk
	texts []string
	room  int
}

func everyCall(m model, l []string) answer {
	var a answer
	for _, deeds := range deedsOf(len(l)) {
		f, _, _ := wal.All(m.d, m.from, m.epoch, l, deeds)
		a.disks = append(a.disks, f)
	}
	f, _ := wal.Append(m.d, m.from, m.epoch, "new")
	a.disks = append(a.disks, f)
	a.texts, _ = wal.Open(m.d, m.from, m.epoch)
	a.room, _ = wal.Room(m.d, m.from, m.epoch)
	return a
}

func (a answer) overwrite() {
	for _, d := range a.disks {
		overwrite(d)
	}
	for i := range a.texts[:cap(a.texts)] {
		a.texts[:cap(a.texts)][i] = "changed"
	}
}

func (a answer) is(b answer) bool {
	return slices.EqualFunc(a.disks, b.disks, same) && slices.Equal(a.texts, b.texts) && a.room == b.room
}

func TestArgumentsReadAsBefore(t *testing.T) {
	kinds := wholeLogs()
	for name, d := range wrongDisks() {
		kinds["not right: "+name] = model{d, 0, 7, nil}
	}
	kinds["no block"] = model{blocks("", ""), 2, 7, nil}
	kinds["no epoch"] = model{blocks("", ""), 0, -1, nil}
	for name, m := range kinds {
		for _, l := range [][]string{nil, {"a"}, {"a", "b"}, {"a", text201, "b"}} {
			given, copied := roomy(m.d), roomy(m.d)
			full := append(slices.Clone(l), "behind", "behind")
			everyCall(model{given, m.from, m.epoch, nil}, full[:len(l)]).overwrite()
			if !same(whole(given), whole(copied)) || !slices.Equal(full, append(slices.Clone(l), "behind", "behind")) {
				t.Errorf("R2: %s: handed in as %s with %s, it reads %s with %s", name, show(m.d), texts(l), show(given), texts(full))
			}
		}
	}
}

func TestAnswersStandAlone(t *testing.T) {
	for name, m := range wholeLogs() {
		for _, l := range [][]string{nil, {"a"}, {"a", "b"}} {
			given, row := model{roomy(m.d), m.from, m.epoch, nil}, slices.Clone(l)
			one, two, want := everyCall(given, row), everyCall(given, row), everyCall(m, l)
			one.overwrite()
			overwrite(given.d)
			for i := range row {
				row[i] = "changed"
			}
			if !two.is(want) {
				t.Errorf("R2: %s, %s: an answer changed with another, or with what was handed in", name, texts(l))
			}
			for i := range two.disks {
				overwrite(two.disks[i])
				rest, left := two, want
				rest.disks, left.disks = two.disks[i+1:], want.disks[i+1:]
				if !rest.is(left) {
					t.Errorf("R2: %s, %s: an answer changed another", name, texts(l))
				}
			}
		}
	}
}

// FuzzCalls appends, stops and crashes, as the bytes say, beside a plain account of what the log must be.
func FuzzCalls(f *testing.F) {
	f.Add("\x00\x01\x02\x03\x04\x05\x06\x07\x08\x09\x0a\x0b")
	f.Add(strings.Repeat("\x05\x01\x07\xff\xa0", 40))
	f.Fuzz(func(t *testing.T, script string) {
		m := model{blocks(empty(9)...), 1, 0, nil}
		for i := range min(len(script)/3, 60) {
			b, deeds := int(script[3*i]), int(script[3*i+1])%8-1
			m.epoch += int(script[3*i+1]) >> 6
			m.l = logOf(m.d, m.from, m.epoch)
			l := slices.Repeat([]string{strings.Repeat("s", b)}, b%5)
			want, done, e := behindDeeds(m, l, deeds)
			if e != api.OK {
				checkAllRefused(t, "P7.3", m, l, deeds, e)
				continue
			}
			checkAll(t, "P7.3", m, l, deeds, want, done)
			m.d = want
			if how := int(script[3*i+2]); how >= 32 {
				var keep []bool
				for k := range 5 {
					keep = append(keep, how>>k&1 == 1)
				}
				m.d = crash(t, m.d, keep)
			}
			m.l = logOf(m.d, m.from, m.epoch)
			checkLog(t, "P7.1", m)
		}
	})
}

// FuzzOpen holds Open against the record's own words: a block says a record just if its end makes all of it.
func FuzzOpen(f *testing.F) {
	for place := range 3 {
		for _, s := range noRecords(place) {
			f.Add(s, 7, place)
		}
		f.Add(recordOf(7, place, ""), 7, place)
		f.Add(recordOf(7, place, text200), 7, place)
	}
	f.Add(recordOf(lastEpoch, 199, "a"), lastEpoch, 199)
	f.Fuzz(func(t *testing.T, block string, epoch, place int) {
		if len(block) > api.MaxBlock || epoch < 0 || epoch > lastEpoch || place < 0 || place >= 200 {
			return
		}
		m := greatLog(place+1, 0, epoch, place)
		m.d.Blocks[place] = block
		if s, ok := recordText(block, epoch, place); ok {
			m.l = append(m.l, s)
		}
		checkLog(t, "P7.1", m)
	})
}
