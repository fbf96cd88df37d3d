package key_test

import (
	"cmp"
	"encoding/binary"
	"math"
	"slices"
	"strings"
	"testing"

	"sexton/api"
	"sexton/key"
)

const latest = 1000000000

var (
	name30 = strings.Repeat("n", 30)
	name31 = strings.Repeat("n", 31)
	// path100 and path101 differ in their last name alone.
	path100 = strings.Join([]string{name30, name30, name30, "1234567"}, "/")
	path101 = strings.Join([]string{name30, name30, name30, "12345678"}, "/")
	// deep100 has as many names as a path can have, and as many bytes.
	deep100 = strings.Repeat("a/", 49) + "bc"
)

// risingTexts rise byte by byte, each behind those that are its beginnings: paths, and texts that are none.
func risingTexts() []string {
	return []string{
		"", "\x00", "\x00\x00", "\x00a", "\x01", " ", ".", "..", "...", "../a", "..a", "./a", "/", "//", "/a", "0", "A", "A/a",
		"a", "a\x00", "a\x00\x00", "a\x00b", "a\x00\xff\xff\xff\xff", "a\x01", "a b", "a!", "a.", "a..", "a/", "a/\x00", "a/.", "a/..", "a/...", "a/../b", "a//b",
		deep100, deep100 + "d", "a/b", "a/b/", "a/b/c", "a/bc", "a/c", "a0", "aA", "aa", "ab", "ab/c", "a\x7f", "a\x80", "a\xff", "b",
		name30, name30 + "!", name30 + "/" + name30, path100[:99], path100, path100 + "/", path101, name31, "z", "\x7f", "\x80", "é", "\xff", "\xff\xff",
	}
}

// fallingNumbers are the edges of an At, the ends of all numbers, and such as wrap round to an At where 32 bits hold it.
func fallingNumbers() []int {
	return []int{
		math.MaxInt, math.MaxInt - 1, 1 << 62, 1<<32 + latest, 1<<32 + 5, 1 << 32, 4294967295, 3294967295, 1 << 31, 2147483647, latest + 1,
		latest, latest - 1, 16777217, 16777216, 16777215, 65537, 65536, 65535, 257, 256, 255, 9, 5, 3, 2, 1, 0,
		-1, -2, -latest, -1<<32 + 5, -1 << 32, -1 << 62, math.MinInt + 1, math.MinInt,
	}
}

// isPath is chapter 2's word, told by other means.
func isPath(s string) bool {
	names := strings.Split(s, "/")
	wrong := func(n string) bool {
		return n == "" || n == "." || n == ".." || len(n) > 30 || strings.Contains(n, "\x00")
	}
	return s == "" || len(s) <= 100 && !slices.ContainsFunc(names, wrong)
}

func mayBe(k api.Key) bool { return isPath(k.Path) && k.At >= 0 && k.At <= latest }

// risingStructs are any structs, in the order in which they rise.
func risingStructs() []api.Key {
	var l []api.Key
	for _, p := range risingTexts() {
		for _, at := range fallingNumbers() {
			l = append(l, api.Key{Path: p, At: at})
		}
	}
	return l
}

// risingKeys are those of the structs that may be.
func risingKeys() []api.Key {
	return slices.DeleteFunc(risingStructs(), func(k api.Key) bool { return !mayBe(k) })
}

// bytesOf is a key's bytes by the library's means: no call of the program makes them. For other structs they are a key's in form alone.
func bytesOf(p string, at int) string {
	return p + "\x00" + string(binary.BigEndian.AppendUint32(nil, uint32(4294967295-at)))
}

// everyText calls f with every text of at most so many of these letters, once each.
func everyText(letters string, most int, f func(s string)) {
	f("")
	if most == 0 {
		return
	}
	for i := range len(letters) {
		everyText(letters, most-1, func(s string) { f(s + letters[i:i+1]) })
	}
}

func put(t *testing.T, k api.Key) string {
	t.Helper()
	s, e := key.Put(k)
	if e != api.OK {
		t.Fatalf("P8.2: Put(%q, %d): error %d", k.Path, k.At, e)
	}
	return s
}

func checkPut(t *testing.T, k api.Key, want string, wantErr api.Errno) {
	t.Helper()
	if s, e := key.Put(k); s != want || e != wantErr {
		t.Errorf("P8.2: Put(%q, %d): %q, %d; want %q, %d", k.Path, k.At, s, e, want, wantErr)
	}
}

func checkGet(t *testing.T, s string, want api.Key, wantErr api.Errno) {
	t.Helper()
	if k, e := key.Get(s); k != want || e != wantErr {
		t.Errorf("P8.2: Get(%q): %q, %d, error %d; want %q, %d, error %d", s, k.Path, k.At, e, want.Path, want.At, wantErr)
	}
}

func checkNoKey(t *testing.T, s string) {
	t.Helper()
	checkGet(t, s, api.Key{}, api.ErrFrame)
}

func checkFirst(t *testing.T, p string, at int, want api.Key, wantErr api.Errno) {
	t.Helper()
	if k, e := key.First(p, at); k != want || e != wantErr {
		t.Errorf("P8.2: First(%q, %d): %q, %d, error %d; want %q, %d, error %d", p, at, k.Path, k.At, e, want.Path, want.At, wantErr)
	}
}

func checkOrder(t *testing.T, a, b api.Key, want int) {
	t.Helper()
	if n := key.Compare(a, b); n != want {
		t.Errorf("P8.1: Compare of %q, %d and %q, %d: %d; want %d", a.Path, a.At, b.Path, b.At, n, want)
	}
	if less := key.Less(a, b); less != (want == -1) {
		t.Errorf("P8.1: Less of %q, %d and %q, %d: %v", a.Path, a.At, b.Path, b.At, less)
	}
}

func TestIs(t *testing.T) {
	for _, x := range []struct {
		k    api.Key
		want bool
	}{
		{api.Key{}, true}, {api.Key{Path: "", At: latest}, true}, {api.Key{Path: "a", At: 5}, true}, {api.Key{Path: "a/b", At: 9}, true},
		{api.Key{Path: "a", At: 0}, true}, {api.Key{Path: "a", At: latest}, true}, {api.Key{Path: "a", At: -1}, false}, {api.Key{Path: "a", At: latest + 1}, false},
		{api.Key{Path: "", At: -1}, false}, {api.Key{Path: "", At: latest + 1}, false}, {api.Key{Path: "a", At: math.MaxInt}, false}, {api.Key{Path: "a", At: math.MinInt}, false},
		{api.Key{Path: name30, At: 1}, true}, {api.Key{Path: name31, At: 1}, false}, {api.Key{Path: "a/" + name30}, true}, {api.Key{Path: "a/" + name31}, false},
		{api.Key{Path: path100, At: 1}, true}, {api.Key{Path: path101, At: 1}, false}, {api.Key{Path: deep100}, true}, {api.Key{Path: deep100 + "d"}, false},
		{api.Key{Path: ".."}, false}, {api.Key{Path: "a/.."}, false}, {api.Key{Path: "../a"}, false}, {api.Key{Path: "a/../b"}, false}, {api.Key{Path: "."}, false}, {api.Key{Path: "a/./b"}, false},
		{api.Key{Path: "/"}, false}, {api.Key{Path: "/a"}, false}, {api.Key{Path: "a/"}, false}, {api.Key{Path: "a//b"}, false},
		{api.Key{Path: "\x00"}, false}, {api.Key{Path: "a\x00"}, false}, {api.Key{Path: "a/b\x00c"}, false}, {api.Key{Path: "..."}, true}, {api.Key{Path: "\xff/ "}, true},
	} {
		if key.Is(x.k) != x.want {
			t.Errorf("P8.1: Is(%q, %d): %v", x.k.Path, x.k.At, !x.want)
		}
	}
	for _, k := range risingStructs() {
		if key.Is(k) != mayBe(k) {
			t.Errorf("P8.1: Is(%q, %d): %v", k.Path, k.At, !mayBe(k))
		}
	}
}

func TestKeysOfTheExampleRise(t *testing.T) {
	l := []api.Key{{Path: "a", At: 5}, {Path: "a", At: 3}, {Path: "a/b", At: 9}}
	for i, a := range l {
		for k, b := range l {
			checkOrder(t, a, b, cmp.Compare(i, k))
		}
	}
}

// Any two, so that those that are no keys have their places in the order, too.
func TestOrderOfAnyTwo(t *testing.T) {
	l := risingStructs()
	for i, a := range l {
		for k, b := range l {
			checkOrder(t, a, b, cmp.Compare(i, k))
		}
		// One struct's failures tell enough, of millions of pairs.
		if t.Failed() {
			return
		}
	}
}

func TestOrderOfNumbersFarApart(t *testing.T) {
	for _, p := range []string{"", "a", "a/", "\x00"} {
		checkOrder(t, api.Key{Path: p, At: math.MaxInt}, api.Key{Path: p, At: math.MinInt}, -1)
		checkOrder(t, api.Key{Path: p, At: math.MinInt}, api.Key{Path: p, At: math.MaxInt}, 1)
		checkOrder(t, api.Key{Path: p, At: math.MinInt}, api.Key{Path: p, At: 1}, 1)
		checkOrder(t, api.Key{Path: p, At: 1 << 32}, api.Key{Path: p, At: 0}, -1)
		checkOrder(t, api.Key{Path: p + "a", At: math.MaxInt}, api.Key{Path: p, At: math.MinInt}, 1)
	}
}

func TestOrderOfAllShortTexts(t *testing.T) {
	var l []string
	everyText("a/.0\x00", 3, func(s string) { l = append(l, s) })
	for _, p := range l {
		for _, q := range l {
			checkOrder(t, api.Key{Path: p, At: 2}, api.Key{Path: q, At: 2}, strings.Compare(p, q))
			if p != q {
				checkOrder(t, api.Key{Path: p, At: 1}, api.Key{Path: q, At: 2}, strings.Compare(p, q))
			}
		}
	}
}

// keyBytes are written out by hand.
var keyBytes = []struct {
	k     api.Key
	bytes string
}{
	{api.Key{Path: "a", At: 5}, "a\x00\xff\xff\xff\xfa"},
	{api.Key{Path: "", At: 0}, "\x00\xff\xff\xff\xff"},
	{api.Key{Path: "", At: latest}, "\x00\xc4\x65\x35\xff"},
	{api.Key{Path: "a", At: 0}, "a\x00\xff\xff\xff\xff"},
	{api.Key{Path: "a", At: 1}, "a\x00\xff\xff\xff\xfe"},
	{api.Key{Path: "a", At: 255}, "a\x00\xff\xff\xff\x00"},
	{api.Key{Path: "a", At: 256}, "a\x00\xff\xff\xfe\xff"},
	{api.Key{Path: "a/b", At: 65535}, "a/b\x00\xff\xff\x00\x00"},
	{api.Key{Path: "a/b", At: 65536}, "a/b\x00\xff\xfe\xff\xff"},
	{api.Key{Path: "a b", At: 16777215}, "a b\x00\xff\x00\x00\x00"},
	{api.Key{Path: "\xff", At: 16777216}, "\xff\x00\xfe\xff\xff\xff"},
	{api.Key{Path: "...", At: latest - 1}, "...\x00\xc4\x65\x36\x00"},
	{api.Key{Path: "é/ü", At: latest}, "é/ü\x00\xc4\x65\x35\xff"},
	{api.Key{Path: name30, At: 305419896}, name30 + "\x00\xed\xcb\xa9\x87"},
	{api.Key{Path: path100, At: 7}, path100 + "\x00\xff\xff\xff\xf8"},
	{api.Key{Path: deep100, At: 7}, deep100 + "\x00\xff\xff\xff\xf8"},
}

func TestPutAndGetOfKnownKeys(t *testing.T) {
	for _, x := range keyBytes {
		checkPut(t, x.k, x.bytes, api.OK)
		checkGet(t, x.bytes, x.k, api.OK)
	}
}

func TestPutOfAnyStruct(t *testing.T) {
	for _, k := range risingStructs() {
		if mayBe(k) {
			checkPut(t, k, bytesOf(k.Path, k.At), api.OK)
		} else {
			checkPut(t, k, "", api.ErrArg)
		}
	}
}

func TestPutWrong(t *testing.T) {
	for _, k := range []api.Key{
		{Path: "a", At: -1}, {Path: "a", At: latest + 1}, {Path: "", At: -1}, {Path: "", At: latest + 1}, {Path: "a", At: 4294967295}, {Path: "a", At: 1<<32 + 5},
		{Path: "a", At: math.MaxInt}, {Path: "a", At: math.MinInt}, {Path: "..", At: 5}, {Path: "a/..", At: 5}, {Path: ".", At: 5}, {Path: "a//b", At: 5}, {Path: "/", At: 5},
		{Path: "/a", At: 5}, {Path: "a/", At: 5}, {Path: "\x00", At: 5}, {Path: "a\x00", At: 5}, {Path: "a\x00b", At: 5}, {Path: name31, At: 5}, {Path: path101, At: 5}, {Path: "/", At: -1},
		{Path: strings.Repeat("a/", 1<<16) + "a", At: 5}, {Path: strings.Repeat("x", 1<<20), At: 5},
	} {
		checkPut(t, k, "", api.ErrArg)
	}
}

func TestGetOfShortTexts(t *testing.T) {
	for _, s := range []string{"", "\x00", "\xff", "a", "\x00\xff", "\x00\xff\xff", "\x00\xff\xff\xff", "\xff\xff\xff\xff", "\x00\x00\x00\x00", "a\x00\xff\xff", "abcd"} {
		checkNoKey(t, s)
	}
	for _, x := range keyBytes {
		for n := range 5 {
			checkNoKey(t, x.bytes[len(x.bytes)-n:])
		}
	}
}

func TestGetWithoutAByte0AtItsPlace(t *testing.T) {
	for _, x := range keyBytes {
		at := len(x.bytes) - 5
		for b := 1; b < 256; b++ {
			checkNoKey(t, x.bytes[:at]+string([]byte{byte(b)})+x.bytes[at+1:])
		}
		// Without it, or with one too many.
		checkNoKey(t, x.bytes[:at]+x.bytes[at+1:])
		checkNoKey(t, x.bytes[:at]+"\x00"+x.bytes[at:])
	}
	checkNoKey(t, "\x00\x00\xff\xff\xff\xff")
	checkNoKey(t, "a\x00\x00\xff\xff\xff\xff")
	checkNoKey(t, "a\x00b\x00\xff\xff\xff\xff")
}

// The four bytes can't say an At below 0: the greatest of them say 0.
func TestGetOfTheAtsEdges(t *testing.T) {
	for _, p := range []string{"", "a", "a/b", path100} {
		checkGet(t, p+"\x00\xff\xff\xff\xff", api.Key{Path: p, At: 0}, api.OK)
		checkGet(t, p+"\x00\xff\xff\xff\xfe", api.Key{Path: p, At: 1}, api.OK)
		checkGet(t, p+"\x00\xc4\x65\x36\x00", api.Key{Path: p, At: latest - 1}, api.OK)
		checkGet(t, p+"\x00\xc4\x65\x35\xff", api.Key{Path: p, At: latest}, api.OK)
		for _, four := range []string{"\xc4\x65\x35\xfe", "\xc4\x65\x34\xff", "\xc4\x64\xff\xff", "\xc3\xff\xff\xff", "\x80\x00\x00\x00", "\x7f\xff\xff\xff", "\x3b\x9a\xca\x00", "\x00\x00\x00\x05", "\x00\x00\x00\x01", "\x00\x00\x00\x00"} {
			checkNoKey(t, p+"\x00"+four)
		}
	}
}

func TestGetOfNoPaths(t *testing.T) {
	for _, p := range []string{"/", "//", "/a", "a/", "a//b", ".", "..", "a/..", "../a", "./a", "a/./b", "\x00", "a\x00", "\x00a", "a/\x00/b", name31, "a/" + name31, path101, deep100 + "d", "/" + path100} {
		for _, at := range []int{0, 5, latest} {
			checkNoKey(t, bytesOf(p, at))
		}
	}
	checkNoKey(t, bytesOf(strings.Repeat("x", 1<<20), 5))
}

func TestGetWithBytesInFrontAndBehind(t *testing.T) {
	for _, x := range keyBytes {
		for _, more := range []string{"\x00", "\xff", "a", "/", "\xff\xff", "\x00\xff", "\xff\xff\xff\xff", "\x00\xff\xff\xff\xff", x.bytes, "a\x00\xff\xff\xff\xfa"} {
			checkNoKey(t, x.bytes+more)
		}
		for _, more := range []string{"\x00", "/", "a\x00", "//", "../", "./", "\x00\xff\xff\xff\xff", x.bytes, name31} {
			checkNoKey(t, more+x.bytes)
		}
	}
	// Names in front make them another key's bytes.
	checkGet(t, "ba\x00\xff\xff\xff\xfa", api.Key{Path: "ba", At: 5}, api.OK)
	checkGet(t, "b/a\x00\xff\xff\xff\xfa", api.Key{Path: "b/a", At: 5}, api.OK)
}

// keyOf is the key whose bytes s is, found by its parts; false, if there is none.
func keyOf(s string) (api.Key, bool) {
	p, four, _ := strings.Cut(s, "\x00")
	if len(four) != 4 || !strings.HasPrefix(s, p+"\x00") {
		return api.Key{}, false
	}
	k := api.Key{Path: p, At: int(^binary.BigEndian.Uint32([]byte(four)))}
	return k, mayBe(k)
}

func checkGetOfAnyText(t *testing.T, s string) {
	t.Helper()
	if want, ok := keyOf(s); ok {
		checkGet(t, s, want, api.OK)
		checkPut(t, want, s, api.OK)
	} else {
		checkNoKey(t, s)
	}
}

func TestGetOfAllShortTexts(t *testing.T) {
	everyText("a/.\x00\xc4\xff", 7, func(s string) {
		if !t.Failed() {
			checkGetOfAnyText(t, s)
		}
	})
}

// All texts that differ from a key's bytes in one byte are another key's, or none's.
func TestGetOfChangedBytes(t *testing.T) {
	for _, x := range keyBytes {
		for i := range len(x.bytes) {
			for b := range 256 {
				checkGetOfAnyText(t, x.bytes[:i]+string([]byte{byte(b)})+x.bytes[i+1:])
			}
			checkGetOfAnyText(t, x.bytes[:i]+x.bytes[i+1:])
			checkGetOfAnyText(t, x.bytes[:i])
			checkGetOfAnyText(t, x.bytes[i:])
		}
	}
}

func TestFirst(t *testing.T) {
	for _, x := range []struct{ at, want int }{
		{0, 0}, {1, 1}, {5, 5}, {256, 256}, {latest - 1, latest - 1}, {latest, latest}, {latest + 1, latest}, {4294967295, latest},
		{1 << 32, latest}, {1<<32 + 5, latest}, {1 << 62, latest}, {math.MaxInt, latest},
	} {
		for _, p := range []string{"", "a", "a/b", "...", "\xff/ ", name30, path100, deep100} {
			checkFirst(t, p, x.at, api.Key{Path: p, At: x.want}, api.OK)
		}
	}
}

func TestFirstWrong(t *testing.T) {
	for _, p := range []string{"/", "/a", "a/", "a//b", ".", "..", "a/..", "../a", "a/../b", "\x00", "a\x00", "a/b\x00c", name31, "a/" + name31, path101, deep100 + "d", strings.Repeat("x", 1<<20)} {
		for _, at := range []int{math.MinInt, -1, 0, 5, latest, latest + 1, math.MaxInt} {
			checkFirst(t, p, at, api.Key{}, api.ErrArg)
		}
	}
	for _, p := range []string{"", "a", "a/b", name30, path100} {
		for _, at := range []int{-1, -2, -latest, -1 << 32, -1<<32 + 5, math.MinInt + 1, math.MinInt} {
			checkFirst(t, p, at, api.Key{}, api.ErrArg)
		}
	}
}

func TestWhatIsPutIsGot(t *testing.T) {
	for _, k := range risingKeys() {
		if got, e := key.Get(put(t, k)); got != k || e != api.OK {
			t.Errorf("P8.3: %q, %d was put; got: %q, %d, error %d", k.Path, k.At, got.Path, got.At, e)
		}
	}
}

func TestKeysRiseAsTheirBytes(t *testing.T) {
	l := risingKeys()
	texts := make([]string, len(l))
	for i, k := range l {
		texts[i] = put(t, k)
	}
	for i, a := range l {
		for k, b := range l {
			if n := strings.Compare(texts[i], texts[k]); n != cmp.Compare(i, k) || key.Compare(a, b) != n {
				t.Errorf("P8.3: the bytes of %q, %d and %q, %d: %d; the keys: %d", a.Path, a.At, b.Path, b.At, n, key.Compare(a, b))
			}
		}
		if t.Failed() {
			return
		}
	}
}

func TestKeysOfABeginningRiseAsTheirBytes(t *testing.T) {
	for _, p := range []string{"a", "a/b", name30[:29]} {
		// All bytes that a name may have, and `/` with a name behind it.
		for b := 1; b < 256; b++ {
			q := p + string([]byte{byte(b)})
			if b == '/' {
				q += "a"
			}
			for _, ats := range [][2]int{{0, 0}, {0, latest}, {latest, 0}, {latest, latest}, {255, 256}} {
				short, long := api.Key{Path: p, At: ats[0]}, api.Key{Path: q, At: ats[1]}
				checkOrder(t, short, long, -1)
				checkOrder(t, long, short, 1)
				if put(t, short) >= put(t, long) {
					t.Errorf("P8.3: the bytes of %q, %d don't stand ahead of those of %q, %d", p, ats[0], q, ats[1])
				}
			}
		}
	}
}

// firstOf is the first key of l, which rises, that does not stand ahead of First(p, at).
func firstOf(t *testing.T, l []api.Key, p string, at int) (api.Key, bool) {
	t.Helper()
	from, e := key.First(p, at)
	if e != api.OK {
		t.Fatalf("P8.2: First(%q, %d): error %d", p, at, e)
	}
	for _, k := range l {
		if !key.Less(k, from) {
			return k, true
		}
	}
	return api.Key{}, false
}

// newest is the latest key of p in l that is not later than at.
func newest(l []api.Key, p string, at int) (best api.Key, ok bool) {
	for _, k := range l {
		if k.Path == p && k.At <= at && (!ok || k.At > best.At) {
			best, ok = k, true
		}
	}
	return best, ok
}

func TestFirstIsTheFirstNotLater(t *testing.T) {
	paths := []string{"", "a", "a!", "a/b", "a/b/c", "a0", "ab", "\xff", path100}
	var l []api.Key
	for i, p := range paths {
		for _, at := range []int{0, 3, 4, 9 + i, 255, 256, latest - 1, latest} {
			// Not every path has the earliest and the latest ones.
			if (at > 0 || i%2 == 0) && (at < latest || i%3 == 0) {
				l = append(l, api.Key{Path: p, At: at})
			}
		}
	}
	slices.SortFunc(l, key.Compare)
	for _, p := range append(paths, "A", "a/a", "b", name30) {
		for _, at := range []int{0, 1, 2, 3, 4, 5, 8, 9, 10, 18, 19, 254, 255, 256, 257, latest - 2, latest - 1, latest, latest + 1, 1<<32 + 3, math.MaxInt} {
			want, ok := newest(l, p, at)
			k, found := firstOf(t, l, p, at)
			if ok && (!found || k != want) || !ok && found && k.Path <= p {
				t.Errorf("P8.3: from First(%q, %d) on: %q, %d, %v; want %q, %d, %v", p, at, k.Path, k.At, found, want.Path, want.At, ok)
			}
		}
	}
}

func TestFirstOfAllTimes(t *testing.T) {
	for _, p := range []string{"", "a/b"} {
		for at := range 300 {
			first, e := key.First(p, at)
			for k := range 300 {
				if b := (api.Key{Path: p, At: k}); e != api.OK || key.Less(b, first) != (k > at) || key.Less(first, b) != (k < at) {
					t.Fatalf("P8.3: First(%q, %d): %q, %d, error %d; beside the key at %d", p, at, first.Path, first.At, e, k)
				}
			}
		}
	}
}

func FuzzGet(f *testing.F) {
	for _, x := range keyBytes {
		f.Add(x.bytes)
		f.Add(x.bytes[1:])
		f.Add(x.bytes + "\x00")
	}
	f.Fuzz(func(t *testing.T, s string) { checkGetOfAnyText(t, s) })
}

// checkAnyStruct holds what the promises say of one struct, whatever it is.
func checkAnyStruct(t *testing.T, k api.Key) {
	t.Helper()
	want, e := api.Key{}, api.ErrArg
	if isPath(k.Path) && k.At >= 0 {
		want, e = api.Key{Path: k.Path, At: min(k.At, latest)}, api.OK
	}
	checkFirst(t, k.Path, k.At, want, e)
	if key.Is(k) != mayBe(k) {
		t.Errorf("P8.1: Is(%q, %d): %v", k.Path, k.At, !mayBe(k))
	}
	if !mayBe(k) {
		checkPut(t, k, "", api.ErrArg)
		return
	}
	s := bytesOf(k.Path, k.At)
	checkPut(t, k, s, api.OK)
	checkGet(t, s, k, api.OK)
}

func FuzzTwo(f *testing.F) {
	f.Add("a", 5, "a", 3)
	f.Add("a", 0, "a/b", 9)
	f.Add("", latest, "a\x00", latest+1)
	f.Add(path100, 0, path101, 0)
	f.Add("a", math.MaxInt, "a", math.MinInt)
	f.Fuzz(func(t *testing.T, p string, at int, q string, bt int) {
		a, b := api.Key{Path: p, At: at}, api.Key{Path: q, At: bt}
		checkAnyStruct(t, a)
		checkAnyStruct(t, b)
		want := cmp.Or(strings.Compare(p, q), cmp.Compare(bt, at))
		checkOrder(t, a, b, want)
		checkOrder(t, b, a, -want)
		if mayBe(a) && mayBe(b) && strings.Compare(put(t, a), put(t, b)) != want {
			t.Errorf("P8.3: the bytes of %q, %d and %q, %d don't rise as the keys do", p, at, q, bt)
		}
	})
}
