package disk_test

import (
	"math"
	"slices"
	"strconv"
	"strings"
	"testing"

	"sexton/api"
	"sexton/disk"
)

var (
	text256 = strings.Repeat("x", 256)
	text257 = strings.Repeat("x", 257)
)

// noPlaces are no block's, on a disk of n.
func noPlaces(n int) []int {
	return []int{-1, -2, -n, math.MinInt, n, n + 1, 200, 201, math.MaxInt}
}

// waiting is a disk of n blocks, each with its own letter, for which writes wait.
func waiting(n int, writes ...api.Write) api.Disk {
	d := api.Disk{Wait: writes}
	for i := range n {
		d.Blocks = append(d.Blocks, string(rune('A'+i%26)))
	}
	return d
}

// numbered is so many writes, with a text each, to n blocks in turn.
func numbered(writes, n int) []api.Write {
	var l []api.Write
	for i := range writes {
		l = append(l, api.Write{At: i % n, Text: "w" + string(rune('0'+i/10)) + string(rune('0'+i%10))})
	}
	return l
}

// rightDisks are ordinary ones and each edge of what a right disk may be.
func rightDisks() map[string]api.Disk {
	return map[string]api.Disk{
		"1 block":                      waiting(1),
		"2 blocks":                     waiting(2),
		"200 blocks":                   waiting(200),
		"empty blocks":                 {Blocks: make([]string, 3), Wait: []api.Write{}},
		"any bytes":                    {Blocks: []string{"\x00", "\xff\xfe", "é"}, Wait: []api.Write{{At: 2, Text: "\x00\x00"}, {At: 0, Text: "\xff"}}},
		"blocks of 256 bytes":          {Blocks: slices.Repeat([]string{text256}, 200)},
		"texts of 256 bytes":           waiting(2, api.Write{At: 0, Text: text256}, api.Write{At: 1, Text: text256}),
		"an empty text":                waiting(2, api.Write{At: 1}),
		"the first and the last block": waiting(5, api.Write{At: 4, Text: "a"}, api.Write{At: 0, Text: "b"}),
		"the last of 200 blocks":       waiting(200, api.Write{At: 199, Text: "a"}),
		"several for one block":        waiting(2, api.Write{At: 0, Text: "a"}, api.Write{At: 1, Text: "b"}, api.Write{At: 0, Text: "c"}, api.Write{At: 0, Text: ""}),
		"one text twice":               waiting(2, api.Write{At: 0, Text: "a"}, api.Write{At: 0, Text: "a"}),
		"99 writes":                    waiting(7, numbered(99, 7)...),
		"100 writes":                   waiting(7, numbered(100, 7)...),
		"100 writes for one block":     waiting(1, numbered(100, 1)...),
		"all of the greatest":          {Blocks: slices.Repeat([]string{text256}, 200), Wait: slices.Repeat([]api.Write{{At: 199, Text: text256}}, 100)},
	}
}

// wrongDisks are not right, each for the one reason that it is named by.
func wrongDisks() map[string]api.Disk {
	behind := func(w api.Write) api.Disk { return waiting(3, api.Write{At: 0, Text: "a"}, w) }
	return map[string]api.Disk{
		"no blocks":                {},
		"no blocks, no nil":        {Blocks: []string{}, Wait: []api.Write{}},
		"201 blocks":               waiting(201),
		"70000 blocks":             waiting(70000),
		"a block of 257 bytes":     {Blocks: []string{text257}},
		"the last of 257 bytes":    {Blocks: []string{"a", "b", text257}},
		"the first of 257 bytes":   {Blocks: []string{text257, "a", "b"}},
		"a block of 129 letters":   {Blocks: []string{"a", strings.Repeat("é", 129)}},
		"a block of a megabyte":    {Blocks: []string{strings.Repeat("x", 1<<20), "a"}},
		"101 writes":               waiting(7, numbered(101, 7)...),
		"70000 writes":             waiting(2, make([]api.Write, 70000)...),
		"a write at -1":            waiting(3, api.Write{At: -1, Text: "a"}),
		"a write at the least":     waiting(3, api.Write{At: math.MinInt, Text: "a"}),
		"a write behind the last":  waiting(3, api.Write{At: 3, Text: "a"}),
		"a write at the greatest":  waiting(3, api.Write{At: math.MaxInt, Text: "a"}),
		"a write at 200 of 200":    waiting(200, api.Write{At: 200, Text: "a"}),
		"a later write at -1":      behind(api.Write{At: -1, Text: "a"}),
		"a later one behind":       behind(api.Write{At: 3, Text: "a"}),
		"a first one at -1":        waiting(3, api.Write{At: -1, Text: "a"}, api.Write{At: 0, Text: "a"}),
		"a text of 257 bytes":      waiting(3, api.Write{At: 0, Text: text257}),
		"a later one of 257 bytes": behind(api.Write{At: 2, Text: text257}),
		"a lost one of 257 bytes":  waiting(3, api.Write{At: 0, Text: text257}, api.Write{At: 0, Text: "a"}),
	}
}

func show(d api.Disk) string {
	var b strings.Builder
	for _, s := range d.Blocks {
		b.WriteString(strconv.Quote(short(s)) + " ")
	}
	b.WriteString("wait:")
	for _, w := range d.Wait {
		b.WriteString(" " + strconv.Itoa(w.At) + " " + strconv.Quote(short(w.Text)))
	}
	return short(b.String())
}

// short cuts a long text so that a failure can be read.
func short(s string) string {
	if len(s) > 300 {
		return s[:300] + ".."
	}
	return s
}

func same(a, b api.Disk) bool {
	return slices.Equal(a.Blocks, b.Blocks) && slices.Equal(a.Wait, b.Wait)
}

// bits is a keep of so many bools, by the bits of mask.
func bits(mask, n int) []bool {
	var l []bool
	for i := range n {
		l = append(l, mask>>i&1 == 1)
	}
	return l
}

func checkDisk(t *testing.T, what string, got api.Disk, e api.Errno, want api.Disk) {
	t.Helper()
	if e != api.OK || !same(got, want) {
		t.Errorf("%s: %s, %d; want %s", what, show(got), e, show(want))
	}
	if !disk.Check(got) {
		t.Errorf("%s: %s is not right", what, show(got))
	}
}

func checkNoDisk(t *testing.T, what string, got api.Disk, e, want api.Errno) {
	t.Helper()
	if e != want || len(got.Blocks) != 0 || len(got.Wait) != 0 {
		t.Errorf("%s: %s, %d; want no disk, %d", what, show(got), e, want)
	}
}

func checkRead(t *testing.T, what string, d api.Disk, at int, want string, wantErr api.Errno) {
	t.Helper()
	if s, e := disk.Read(d, at); s != want || e != wantErr {
		t.Errorf("%s: Read %d of %s: %q, %d; want %q, %d", what, at, show(d), short(s), e, short(want), wantErr)
	}
}

func write(t *testing.T, d api.Disk, at int, s string) api.Disk {
	t.Helper()
	f, e := disk.Write(d, at, s)
	if e != api.OK {
		t.Fatalf("P4.1: Write %d %q to %s: error %d", at, short(s), show(d), e)
	}
	return f
}

func sync(t *testing.T, d api.Disk) api.Disk {
	t.Helper()
	f, e := disk.Sync(d)
	if e != api.OK {
		t.Fatalf("P4.2: Sync of %s: error %d", show(d), e)
	}
	return f
}

func crash(t *testing.T, d api.Disk, keep []bool) api.Disk {
	t.Helper()
	f, e := disk.Crash(d, keep)
	if e != api.OK {
		t.Fatalf("P4.2: Crash of %s, %v: error %d", show(d), keep, e)
	}
	return f
}

func TestNew(t *testing.T) {
	for _, n := range []int{1, 2, 3, 100, 199, 200} {
		d, e := disk.New(n)
		checkDisk(t, "P4.1: New", d, e, api.Disk{Blocks: make([]string, n)})
	}
	for _, n := range []int{0, -1, -200, math.MinInt, 201, 202, 1 << 40, math.MaxInt} {
		d, e := disk.New(n)
		checkNoDisk(t, "P4.1: New", d, e, api.ErrArg)
	}
}

func TestCheck(t *testing.T) {
	for name, d := range rightDisks() {
		if !disk.Check(d) {
			t.Errorf("P4.1: %s: not right", name)
		}
	}
	for name, d := range wrongDisks() {
		if disk.Check(d) {
			t.Errorf("P4.1: %s: right", name)
		}
	}
}

// Also the refusals of a right disk's arguments are ErrArg here: the disk comes first.
func TestEveryCallOfWrongDisks(t *testing.T) {
	for name, d := range wrongDisks() {
		for _, at := range append(noPlaces(len(d.Blocks)), 0, 1, len(d.Blocks)-1) {
			for _, s := range []string{"", "a", text256, text257} {
				f, e := disk.Write(d, at, s)
				checkNoDisk(t, "P4.1: Write to "+name, f, e, api.ErrArg)
			}
			checkRead(t, "P4.2: "+name, d, at, "", api.ErrArg)
		}
		f, e := disk.Sync(d)
		checkNoDisk(t, "P4.2: Sync of "+name, f, e, api.ErrArg)
		for _, keep := range [][]bool{nil, {false}, {true}, {false, true}, slices.Repeat([]bool{true}, 101)} {
			f, e := disk.Crash(d, keep)
			checkNoDisk(t, "P4.2: Crash of "+name, f, e, api.ErrArg)
		}
	}
}

func TestWriteStandsBehindAllThatWait(t *testing.T) {
	for name, d := range rightDisks() {
		if len(d.Wait) == 100 {
			continue
		}
		for _, at := range []int{0, len(d.Blocks) / 2, len(d.Blocks) - 1} {
			for _, s := range []string{"", "a", "\x00\xff", text256[:255], text256, strings.Repeat("é", 128)} {
				f, e := disk.Write(d, at, s)
				want := api.Disk{Blocks: d.Blocks, Wait: slices.Concat(d.Wait, []api.Write{{At: at, Text: s}})}
				checkDisk(t, "P4.1: Write to "+name, f, e, want)
			}
		}
	}
}

func TestWriteRefused(t *testing.T) {
	for _, x := range []struct {
		name string
		d    api.Disk
		at   int
		s    string
		want api.Errno
	}{
		{"no block", waiting(3), 3, "a", api.ErrDisk},
		{"no block -1", waiting(3), -1, "a", api.ErrDisk},
		{"no block of 1", waiting(1), 1, "", api.ErrDisk},
		{"no block of 200", waiting(200), 200, "a", api.ErrDisk},
		{"too long", waiting(3), 2, text257, api.ErrArg},
		{"too many bytes, though not letters", waiting(3), 0, strings.Repeat("é", 129), api.ErrArg},
		{"much too long", waiting(3), 0, strings.Repeat("x", 1<<20), api.ErrArg},
		{"no room", waiting(3, numbered(100, 3)...), 2, "a", api.ErrSpace},
		{"no room for an empty text", waiting(3, numbered(100, 3)...), 0, "", api.ErrSpace},
		{"no room for the text that waits last", waiting(1, numbered(100, 1)...), 0, "w99", api.ErrSpace},
		{"no block ahead of too long", waiting(3), 3, text257, api.ErrDisk},
		{"no block ahead of no room", waiting(3, numbered(100, 3)...), -1, "a", api.ErrDisk},
		{"no block ahead of both", waiting(3, numbered(100, 3)...), 3, text257, api.ErrDisk},
		{"too long ahead of no room", waiting(3, numbered(100, 3)...), 2, text257, api.ErrArg},
	} {
		f, e := disk.Write(x.d, x.at, x.s)
		checkNoDisk(t, "P4.1: "+x.name, f, e, x.want)
	}
	for _, at := range noPlaces(3) {
		f, e := disk.Write(waiting(3), at, "a")
		checkNoDisk(t, "P4.1: Write where no block is", f, e, api.ErrDisk)
	}
}

func TestWriteTillNoRoom(t *testing.T) {
	d, _ := disk.New(3)
	for _, w := range numbered(100, 3) {
		d = write(t, d, w.At, w.Text)
	}
	if !slices.Equal(d.Wait, numbered(100, 3)) {
		t.Errorf("P4.1: of 100 writes wait %s", show(d))
	}
	f, e := disk.Write(d, 0, "a")
	checkNoDisk(t, "P4.1: the 101st write", f, e, api.ErrSpace)
	checkDisk(t, "P4.1: behind Sync there is room again", write(t, sync(t, d), 0, "a"), api.OK,
		api.Disk{Blocks: []string{"w99", "w97", "w98"}, Wait: []api.Write{{At: 0, Text: "a"}}})
}

func TestReadIsWhatTheLastOneSays(t *testing.T) {
	d := waiting(5, api.Write{At: 0, Text: "a"}, api.Write{At: 1, Text: "b"}, api.Write{At: 0, Text: "c"}, api.Write{At: 4, Text: "e"}, api.Write{At: 2, Text: "d"}, api.Write{At: 2, Text: ""})
	for at, want := range []string{"c", "b", "", "D", "e"} {
		checkRead(t, "P4.2", d, at, want, api.OK)
	}
	for at, want := range []string{"w98", "w99", "w93", "w94", "w95", "w96", "w97"} {
		checkRead(t, "P4.2", waiting(7, numbered(100, 7)...), at, want, api.OK)
	}
	checkRead(t, "P4.2", waiting(200), 199, "R", api.OK)
	checkRead(t, "P4.2", waiting(200, api.Write{At: 199, Text: text256}), 199, text256, api.OK)
	checkRead(t, "P4.2", api.Disk{Blocks: []string{text256}}, 0, text256, api.OK)
}

func TestReadOfNoBlock(t *testing.T) {
	for name, d := range rightDisks() {
		for _, at := range noPlaces(len(d.Blocks)) {
			if at < 0 || at >= len(d.Blocks) {
				checkRead(t, "P4.2: "+name, d, at, "", api.ErrDisk)
			}
		}
	}
}

func TestSyncOfEachDisk(t *testing.T) {
	for name, d := range rightDisks() {
		var want []string
		for at := range d.Blocks {
			want = append(want, says(d, at))
		}
		checkDisk(t, "P4.2: Sync of "+name, sync(t, d), api.OK, api.Disk{Blocks: want})
	}
}

func TestCrashKeepsByPlace(t *testing.T) {
	d := waiting(3, api.Write{At: 0, Text: "a"}, api.Write{At: 1, Text: "b"}, api.Write{At: 0, Text: "c"}, api.Write{At: 0, Text: ""})
	for _, x := range []struct {
		keep []bool
		want []string
	}{
		{nil, []string{"A", "B", "C"}},
		{[]bool{}, []string{"A", "B", "C"}},
		{[]bool{false}, []string{"A", "B", "C"}},
		{[]bool{true}, []string{"a", "B", "C"}},
		{[]bool{false, true}, []string{"A", "b", "C"}},
		{[]bool{false, false, true}, []string{"c", "B", "C"}},
		{[]bool{true, false, true}, []string{"c", "B", "C"}},
		{[]bool{true, true, false, false}, []string{"a", "b", "C"}},
		{[]bool{true, false, false, true}, []string{"", "B", "C"}},
		{[]bool{true, true, true, true}, []string{"", "b", "C"}},
		{[]bool{false, false, false, false, true, true}, []string{"A", "B", "C"}},
		{[]bool{true, true, true, true, true}, []string{"", "b", "C"}},
		{append([]bool{false, true}, make([]bool, 70000)...), []string{"A", "b", "C"}},
	} {
		checkDisk(t, "P4.2: Crash", crash(t, d, x.keep), api.OK, api.Disk{Blocks: x.want})
	}
	checkDisk(t, "P4.2: Crash of what nothing waits for", crash(t, waiting(2), []bool{true, true}), api.OK, waiting(2))
	checkDisk(t, "P4.2: Crash that keeps the 100th alone", crash(t, waiting(2, numbered(100, 2)...), append(make([]bool, 99), true)), api.OK,
		api.Disk{Blocks: []string{"A", "w99"}})
}

func TestExamples(t *testing.T) {
	d, _ := disk.New(2)
	d = write(t, write(t, d, 0, "a"), 0, "b")
	checkRead(t, "P4.2", d, 0, "b", api.OK)
	checkRead(t, "P4.2", crash(t, d, []bool{true, false}), 0, "a", api.OK)
	checkRead(t, "P4.2", crash(t, d, nil), 0, "", api.OK)
}

// says is what a block says, by the document's words.
func says(d api.Disk, at int) string {
	s := d.Blocks[at]
	for _, w := range d.Wait {
		if w.At == at {
			s = w.Text
		}
	}
	return s
}

// crashed is the blocks behind a crash, each on its own.
func crashed(d api.Disk, keep []bool) []string {
	var kept []api.Write
	for i := range min(len(d.Wait), len(keep)) {
		if keep[i] {
			kept = append(kept, d.Wait[i])
		}
	}
	var l []string
	for at := range d.Blocks {
		l = append(l, says(api.Disk{Blocks: d.Blocks, Wait: kept}, at))
	}
	return l
}

// everyRow calls f with every row of at most so many writes, to three blocks, of two texts.
func everyRow(most int, f func(writes []api.Write)) {
	f(nil)
	if most == 0 {
		return
	}
	for at := range 3 {
		for _, s := range []string{"a", ""} {
			everyRow(most-1, func(writes []api.Write) { f(slices.Concat([]api.Write{{At: at, Text: s}}, writes)) })
		}
	}
}

func TestWhatIsWrittenIsRead(t *testing.T) {
	everyRow(4, func(writes []api.Write) {
		d := waiting(3)
		for _, w := range writes {
			before := d
			d = write(t, d, w.At, w.Text)
			for at := range 3 {
				want := says(before, at)
				if at == w.At {
					want = w.Text
				}
				checkRead(t, "P4.3: behind a Write", d, at, want, api.OK)
			}
		}
		s := sync(t, d)
		for at := range 3 {
			checkRead(t, "P4.3: behind a Sync", s, at, says(d, at), api.OK)
		}
	})
}

func TestNothingIsLostBehindSync(t *testing.T) {
	for name, d := range rightDisks() {
		s := sync(t, d)
		for _, keep := range [][]bool{nil, {true}, {false}, slices.Repeat([]bool{true}, 100)} {
			checkDisk(t, "P4.3: Crash behind Sync of "+name, crash(t, s, keep), api.OK, s)
		}
		checkDisk(t, "P4.3: Sync behind Sync of "+name, sync(t, s), api.OK, s)
		lost := crash(t, write(t, s, 0, "other"), nil)
		checkDisk(t, "P4.3: what came behind Sync is lost alone: "+name, lost, api.OK, s)
	}
}

func TestCrashOfAllAndOfNone(t *testing.T) {
	for name, d := range rightDisks() {
		n := len(d.Wait)
		for _, more := range []int{0, 1, 50} {
			all := crash(t, d, slices.Repeat([]bool{true}, n+more))
			checkDisk(t, "P4.3: Crash that keeps all of "+name, all, api.OK, sync(t, d))
			none := crash(t, d, make([]bool, n+more))
			checkDisk(t, "P4.3: Crash that keeps none of "+name, none, api.OK, api.Disk{Blocks: d.Blocks})
		}
		checkDisk(t, "P4.3: Crash without a keep of "+name, crash(t, d, nil), api.OK, api.Disk{Blocks: d.Blocks})
	}
}

func TestEveryCrashOfFewWrites(t *testing.T) {
	everyRow(4, func(writes []api.Write) {
		d := waiting(3, writes...)
		for n := range 6 {
			for mask := range 1 << n {
				keep := bits(mask, n)
				checkDisk(t, "P4.2: Crash", crash(t, d, keep), api.OK, api.Disk{Blocks: crashed(d, keep)})
			}
		}
	})
}

// roomy is d on memory that has room behind its slices: there too nothing is to be written.
func roomy(d api.Disk) api.Disk {
	blocks := append(slices.Clone(d.Blocks), "behind", "behind")
	writes := append(slices.Clone(d.Wait), api.Write{At: 7, Text: "behind"}, api.Write{At: 7, Text: "behind"})
	return api.Disk{Blocks: blocks[:len(d.Blocks)], Wait: writes[:len(d.Wait)]}
}

// behind is what stands in the room behind roomy's slices.
func behind(d api.Disk) api.Disk {
	b, w := len(d.Blocks), len(d.Wait)
	return api.Disk{Blocks: d.Blocks[b : b+2], Wait: d.Wait[w : w+2]}
}

// overwrite changes all that an answer holds, and the room behind it.
func overwrite(d api.Disk) {
	for i := range d.Blocks[:cap(d.Blocks)] {
		d.Blocks[:cap(d.Blocks)][i] = "changed"
	}
	for i := range d.Wait[:cap(d.Wait)] {
		d.Wait[:cap(d.Wait)][i] = api.Write{At: 9, Text: "changed"}
	}
}

// everyCall is the disks that the calls answer for d, those of an error among them.
func everyCall(d api.Disk, keep []bool) []api.Disk {
	a, _ := disk.Write(d, 0, "new")
	b, _ := disk.Write(d, len(d.Blocks)-1, "new")
	c, _ := disk.Write(d, -1, "new")
	e, _ := disk.Write(d, 0, text257)
	f, _ := disk.Sync(d)
	g, _ := disk.Crash(d, keep)
	h, _ := disk.Crash(d, nil)
	disk.Check(d)
	disk.Read(d, 0)
	return []api.Disk{a, b, c, e, f, g, h}
}

func TestArgumentsReadAsBefore(t *testing.T) {
	kinds := rightDisks()
	for name, d := range wrongDisks() {
		kinds["not right: "+name] = d
	}
	for name, d := range kinds {
		given, full := roomy(d), behind(roomy(d))
		keep := []bool{true, false, true, true}
		for _, answer := range everyCall(given, keep) {
			overwrite(answer)
		}
		if !same(given, d) || !same(behind(given), full) {
			t.Errorf("R2: %s: handed in as %s, it reads %s", name, show(d), show(given))
		}
		if !slices.Equal(keep, []bool{true, false, true, true}) {
			t.Errorf("R2: %s: keep reads %v", name, keep)
		}
	}
}

func TestAnswersStandAlone(t *testing.T) {
	for name, d := range rightDisks() {
		given, keep := roomy(d), []bool{true, false, true}
		one, two, want := everyCall(given, keep), everyCall(given, keep), everyCall(d, keep)
		for i := range one {
			overwrite(one[i])
			overwrite(given)
			keep[0] = false
			if !same(two[i], want[i]) {
				t.Errorf("R2: %s, answer %d: it changed with another: %s; want %s", name, i, show(two[i]), show(want[i]))
			}
		}
	}
	one, _ := disk.New(3)
	two, _ := disk.New(3)
	overwrite(one)
	checkDisk(t, "R2: New", two, api.OK, api.Disk{Blocks: make([]string, 3)})
}

// Two disks that were made of one go on apart.
func TestWritesToOneDiskGoApart(t *testing.T) {
	d := write(t, write(t, write(t, waiting(2), 0, "a"), 1, "b"), 0, "c")
	left, right := write(t, d, 0, "left"), write(t, d, 0, "right")
	checkRead(t, "R2", left, 0, "left", api.OK)
	checkRead(t, "R2", right, 0, "right", api.OK)
	checkRead(t, "R2", d, 0, "c", api.OK)
}

// FuzzCalls goes on from one disk to the next, as the bytes say, beside a plain account of what must be there.
func FuzzCalls(f *testing.F) {
	f.Add("\x00a\x01b\x05\x00c\x06\x03")
	f.Add(strings.Repeat("\x02z", 101) + "\x05")
	f.Fuzz(func(t *testing.T, script string) {
		d, want := waiting(4), waiting(4)
		for i := 0; i+1 < len(script); i += 2 {
			at, text := int(script[i]%8), script[i+1:i+2]
			switch {
			case at == 6:
				d = sync(t, d)
				want = api.Disk{Blocks: crashed(want, slices.Repeat([]bool{true}, 100))}
			case at == 7:
				keep := bits(int(script[i+1]), 8)
				d = crash(t, d, keep)
				want = api.Disk{Blocks: crashed(want, keep)}
			case at >= 4:
				g, e := disk.Write(d, at, text)
				checkNoDisk(t, "P4.1", g, e, api.ErrDisk)
			case len(want.Wait) == 100:
				g, e := disk.Write(d, at, text)
				checkNoDisk(t, "P4.1", g, e, api.ErrSpace)
			default:
				d = write(t, d, at, text)
				want.Wait = append(want.Wait, api.Write{At: at, Text: text})
			}
			checkDisk(t, "P4.3", d, api.OK, want)
			for at := range 4 {
				checkRead(t, "P4.3", d, at, says(want, at), api.OK)
			}
		}
	})
}
