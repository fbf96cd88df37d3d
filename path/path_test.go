package path_test

import (
	slash "path"
	"slices"
	"strings"
	"testing"

	"sexton/api"
	"sexton/path"
)

var (
	name30 = strings.Repeat("n", 30)
	name31 = strings.Repeat("n", 31)
	// path100 and path101 differ in their last name alone.
	path100 = strings.Join([]string{name30, name30, name30, "1234567"}, "/")
	path101 = strings.Join([]string{name30, name30, name30, "12345678"}, "/")
	// deep100 has as many names as a path can have, and as many bytes.
	deep100 = strings.Repeat("a/", 49) + "bc"
)

// paths are the texts that are paths: the root, odd names, and the longest ones.
func paths() []string {
	return []string{
		"", "a", "ab", "a/b", "a/b/c", "a/bc", "ab/c", "b/a", "...", "....", ".a", "..a", "a.", "a..", "a/...", ".../a",
		" ", " a/ b ", "\\", "\x01", "\xff\xfe", "a\n/b", "é/ü", "A/a", name30, strings.Repeat("é", 15), name30 + "/" + name30,
		strings.Repeat("abcd/", 19) + "abcd", strings.Repeat("a/", 49) + "a", path100, path100[:99], deep100,
	}
}

// noPaths are texts that are none, though Norm makes a path of some.
func noPaths() []string {
	return []string{
		"/", "//", "/a", "a/", "a//b", "/a/b", "a/b/", ".", "..", "./a", "a/.", "a/./b", "../a", "a/..", "a/../b", "./", "../..",
		"\x00", "a\x00", "\x00a", "a/\x00", "a/b\x00c", "\x00/a", name31, strings.Repeat("é", 16), "a/" + name31, name31 + "/a",
		path101, deep100 + "d", "a/" + deep100, path100 + "/", "/" + path100, strings.Repeat("a/", 50), strings.Repeat("n", 100), strings.Repeat("n", 101),
		strings.Repeat("abcd/", 20) + "a", strings.Repeat("/", 400), strings.Repeat("/", 401), strings.Repeat("a/", 5000) + "a", strings.Repeat("x", 1<<20),
	}
}

// everyText calls f with every text of at most so many of these letters, once each.
func everyText(letters string, most int, f func(s string)) {
	f("")
	if most == 0 {
		return
	}
	for i := range len(letters) {
		everyText(letters, most-1, func(s string) { f(s + letters[i:i+1]) })
	}
}

// someTexts are all short texts of the bytes that decide.
func someTexts() []string {
	var l []string
	everyText("a./\x00", 6, func(s string) { l = append(l, s) })
	return l
}

func short(s string) string {
	if len(s) > 120 {
		return s[:120] + "…"
	}
	return s
}

func checkNorm(t *testing.T, s, want string, wantErr api.Errno) {
	t.Helper()
	if p, e := path.Norm(s); p != want || e != wantErr {
		t.Errorf("P2.1: Norm(%q), %d bytes: %q, %d; want %q, %d", short(s), len(s), p, e, want, wantErr)
	}
}

func TestNormGoesPartByPart(t *testing.T) {
	for s, want := range map[string]string{
		"/a//b/./c/../d/": "a/b/d",
		"":                "",
		"/":               "",
		"///":             "",
		".":               "",
		"./.":             "",
		"/./":             "",
		"a":               "a",
		"/a":              "a",
		"a/":              "a",
		"a/.":             "a",
		"./a":             "a",
		"a//b":            "a/b",
		"a/./b":           "a/b",
		"a/../b":          "b",
		"a/b/..":          "a",
		"a/..":            "",
		"a/../":           "",
		"/a/../.":         "",
		"a/b/../..":       "",
		"a/../b/..":       "",
		"a/./..":          "",
		"a//..":           "",
		"a/b/../../c":     "c",
		"a/b/../c/../d":   "a/d",
		"...":             "...",
		"a/.../b":         "a/.../b",
		".../..":          "",
		"..a/.b/c..":      "..a/.b/c..",
		"a b/.c":          "a b/.c",
		"\xff//\xc3":      "\xff/\xc3",
		"A/./a":           "A/a",
		"\\..\\":          "\\..\\",
	} {
		checkNorm(t, s, want, api.OK)
	}
}

func TestNormWithNoNameLeft(t *testing.T) {
	for _, s := range []string{"..", "/..", "../", "./..", "//..", "../a", "../..", "a/../..", "a/../../a", "a/b/../../..", "a/../b/../..", "a/.././..", "a/..//../b", ".../../.."} {
		checkNorm(t, s, "", api.ErrPath)
	}
}

func TestNormWithPartsThatAreNone(t *testing.T) {
	checkNorm(t, name30, name30, api.OK)
	checkNorm(t, "/"+name30+"//"+name30+"/", name30+"/"+name30, api.OK)
	checkNorm(t, strings.Repeat("é", 15), strings.Repeat("é", 15), api.OK)
	// A part that is none stays one, even if `..` stands behind it.
	for _, part := range []string{name31, strings.Repeat("é", 16), strings.Repeat(".", 31), strings.Repeat("n", 100), "\x00", "a\x00", "\x00a", ".\x00", "..\x00", "a\x00b", name30[:29] + "\x00"} {
		for _, s := range []string{part, "/" + part, "a/" + part, part + "/a", part + "/..", "a/" + part + "/../b", "a/../" + part} {
			checkNorm(t, s, "", api.ErrPath)
		}
	}
	checkNorm(t, strings.Repeat(".", 30), strings.Repeat(".", 30), api.OK)
}

func TestNormOfPathsOf100And101Bytes(t *testing.T) {
	checkNorm(t, path100, path100, api.OK)
	checkNorm(t, "//"+path100+"/./", path100, api.OK)
	checkNorm(t, deep100, deep100, api.OK)
	checkNorm(t, path101, "", api.ErrPath)
	checkNorm(t, "a/"+path100, "", api.ErrPath)
	checkNorm(t, deep100+"d", "", api.ErrPath)
	// Only what is left at the end counts, not what stood on the way.
	checkNorm(t, path101+"/..", path101[:92], api.OK)
	checkNorm(t, path101+"/../1234567", path100, api.OK)
	checkNorm(t, strings.Repeat("abcd/", 57)+strings.Repeat("../", 37), fours(20), api.OK)
	checkNorm(t, strings.Repeat("abcd/", 57)+strings.Repeat("../", 36), "", api.ErrPath)
}

// fours is n names of 4 bytes.
func fours(n int) string {
	return strings.Join(slices.Repeat([]string{"abcd"}, n), "/")
}

func TestNormOfTextsOf400And401Bytes(t *testing.T) {
	for _, x := range []struct{ s, want string }{
		{strings.Repeat("/", 400), ""},
		{strings.Repeat("./", 200), ""},
		{strings.Repeat("a/../", 80), ""},
		{strings.Repeat("/", 399) + "a", "a"},
		{strings.Repeat("/", 300) + path100, path100},
		{path100 + strings.Repeat("/", 300), path100},
	} {
		checkNorm(t, x.s, x.want, api.OK)
		checkNorm(t, x.s+"/", "", api.ErrPath)
		checkNorm(t, "/"+x.s, "", api.ErrPath)
	}
	checkNorm(t, strings.Repeat("/", 1<<20), "", api.ErrPath)
}

// cleaned is Norm told by the library: there, what climbs above its start keeps a `..` at its head.
func cleaned(s string) (string, api.Errno) {
	p := strings.TrimPrefix(slash.Clean("./"+s), "./")
	if p == ".." || strings.HasPrefix(p, "../") || strings.Contains(s, "\x00") {
		return "", api.ErrPath
	}
	if p == "." {
		return "", api.OK
	}
	return p, api.OK
}

func TestNormOfAllShortTexts(t *testing.T) {
	for _, s := range someTexts() {
		want, e := cleaned(s)
		checkNorm(t, s, want, e)
	}
}

func TestIs(t *testing.T) {
	for _, s := range paths() {
		if !path.Is(s) {
			t.Errorf("P2.1: %q, %d bytes, is a path", s, len(s))
		}
	}
	for _, s := range noPaths() {
		if path.Is(s) {
			t.Errorf("P2.1: %q, %d bytes, is no path", short(s), len(s))
		}
	}
	for _, s := range someTexts() {
		p, e := cleaned(s)
		if want := e == api.OK && p == s; path.Is(s) != want {
			t.Errorf("P2.1: Is(%q): %v", s, !want)
		}
	}
}

func checkJoin(t *testing.T, dir, s, want string, wantErr api.Errno) {
	t.Helper()
	if p, e := path.Join(dir, s); p != want || e != wantErr {
		t.Errorf("P2.1: Join(%q, %q): %q, %d; want %q, %d", short(dir), short(s), p, e, want, wantErr)
	}
}

func TestJoin(t *testing.T) {
	for _, x := range []struct{ dir, s, want string }{
		{"", "", ""}, {"", "a", "a"}, {"", "/a/", "a"}, {"a", "", "a"}, {"a", ".", "a"}, {"a", "/", "a"},
		{"a", "b", "a/b"}, {"a", "/b", "a/b"}, {"a", "b//c/.", "a/b/c"}, {"a/b", "c/d", "a/b/c/d"},
		{"a", "..", ""}, {"a/b", "..", "a"}, {"a/b", "../c", "a/c"}, {"a/b", "../..", ""}, {"a/b", "../../c", "c"}, {"a", "../a/..", ""},
		{path100, "", path100}, {path100, "..", path100[:92]}, {path100[:92], "1234567", path100}, {path100, "b/../..", path100[:92]},
	} {
		checkJoin(t, x.dir, x.s, x.want, api.OK)
	}
}

func TestJoinWrong(t *testing.T) {
	for _, x := range []struct{ dir, s string }{
		{"", ".."}, {"", "a/../.."}, {"a", "../.."}, {"a/b", "../../.."}, {"a", "b\x00"}, {"a", name31}, {"", name31}, {"", "\x00"},
		{path100, "a"}, {path100[:92], "12345678"}, {"", path101},
	} {
		checkJoin(t, x.dir, x.s, "", api.ErrPath)
	}
	for _, dir := range noPaths() {
		for _, s := range []string{"", "a", "..", "/", "."} {
			checkJoin(t, dir, s, "", api.ErrPath)
		}
	}
}

// The text that Join hands to Norm holds dir and the `/`, too.
func TestJoinOf400And401Bytes(t *testing.T) {
	checkJoin(t, "", strings.Repeat("/", 399), "", api.OK)
	checkJoin(t, "", strings.Repeat("/", 400), "", api.ErrPath)
	checkJoin(t, "ab", strings.Repeat("/", 397), "ab", api.OK)
	checkJoin(t, "ab", strings.Repeat("/", 398), "", api.ErrPath)
	checkJoin(t, path100, strings.Repeat("/", 299), path100, api.OK)
	checkJoin(t, path100, strings.Repeat("/", 300), "", api.ErrPath)
	checkJoin(t, "a", strings.Repeat("/", 1<<20), "", api.ErrPath)
}

func TestJoinIsNorm(t *testing.T) {
	for _, dir := range append(paths(), noPaths()...) {
		for _, s := range append(paths(), noPaths()...) {
			want, e := "", api.ErrPath
			if path.Is(dir) {
				want, e = path.Norm(dir + "/" + s)
			}
			checkJoin(t, dir, s, want, e)
		}
	}
}

func checkParts(t *testing.T, s, parent, base string, ok bool, depth int) {
	t.Helper()
	if p, is := path.Parent(s); p != parent || is != ok {
		t.Errorf("P2.2: Parent(%q): %q, %v; want %q, %v", short(s), p, is, parent, ok)
	}
	if b, is := path.Base(s); b != base || is != ok {
		t.Errorf("P2.2: Base(%q): %q, %v; want %q, %v", short(s), b, is, base, ok)
	}
	if d := path.Depth(s); d != depth {
		t.Errorf("P2.2: Depth(%q): %d; want %d", short(s), d, depth)
	}
}

func TestParentBaseAndDepth(t *testing.T) {
	checkParts(t, "", "", "", false, 0)
	checkParts(t, "a", "", "a", true, 1)
	checkParts(t, "a/b", "a", "b", true, 2)
	checkParts(t, "a/b/c", "a/b", "c", true, 3)
	checkParts(t, "a/a/a/a", "a/a/a", "a", true, 4)
	checkParts(t, ".../..a", "...", "..a", true, 2)
	checkParts(t, "\xff/ ", "\xff", " ", true, 2)
	checkParts(t, name30, "", name30, true, 1)
	checkParts(t, "a/"+name30, "a", name30, true, 2)
	checkParts(t, path100, path100[:92], "1234567", true, 4)
	checkParts(t, deep100, deep100[:97], "bc", true, 50)
	for _, s := range noPaths() {
		checkParts(t, s, "", "", false, -1)
	}
}

func TestUnder(t *testing.T) {
	for _, x := range []struct {
		dir, s string
		want   bool
	}{
		{"", "", true}, {"", "a", true}, {"", "a/b", true}, {"", path100, true},
		{"a", "a", true}, {"a", "a/b", true}, {"a", "a/b/c", true}, {"a/b", "a/b/c", true}, {"a/b", "a/b", true}, {path100[:92], path100, true}, {path100, path100, true},
		{"a", "", false}, {"a", "ab", false}, {"a", "ab/c", false}, {"a/b", "a", false}, {"a/b", "a/bc", false}, {"a/b", "a/bc/d", false}, {"a/b", "a/c", false},
		{"b", "a/b", false}, {"a", "b", false}, {"ab", "a/b", false}, {"a", "A/b", false}, {path100, path100[:92], false}, {path100, path100[:99], false},
	} {
		if path.Under(x.dir, x.s) != x.want {
			t.Errorf("P2.2: Under(%q, %q): %v", x.dir, x.s, !x.want)
		}
	}
}

func TestUnderOfNoPaths(t *testing.T) {
	for _, wrong := range noPaths() {
		if path.Under(wrong, wrong) {
			t.Errorf("P2.2: %q is under itself, and no path", short(wrong))
		}
		for _, s := range append(paths(), wrong+"/a") {
			if path.Under(wrong, s) || path.Under(s, wrong) {
				t.Errorf("P2.2: one of %q and %q is under the other, and the first no path", short(wrong), short(s))
			}
		}
	}
}

// checkFollows holds P2.3's sayings, whatever s is.
func checkFollows(t *testing.T, s string) {
	p, e := path.Norm(s)
	switch {
	case e == api.ErrPath && (p != "" || path.Is(s)):
		t.Errorf("P2.3: Norm(%q): ErrPath, and %q", s, p)
	case e == api.OK && !path.Is(p):
		t.Errorf("P2.1: Norm(%q) is no path: %q", s, p)
	case e == api.OK:
		if q, f := path.Norm(p); q != p || f != api.OK {
			t.Errorf("P2.3: Norm of %q, twice: %q, %d; once: %q", s, q, f, p)
		}
	case e != api.ErrPath:
		t.Errorf("P2.1: Norm(%q): error %d", s, e)
	}
	if path.Is(s) && (e != api.OK || p != s) {
		t.Errorf("P2.3: Norm of the path %q: %q, %d", s, p, e)
	}
	checkJoinedParts(t, s)
}

func checkJoinedParts(t *testing.T, s string) {
	dir, ok := path.Parent(s)
	base, is := path.Base(s)
	if want := path.Is(s) && s != ""; ok != want || is != want {
		t.Errorf("P2.2: Parent and Base of %q: %v, %v", s, ok, is)
	}
	if !ok {
		return
	}
	if p, e := path.Join(dir, base); p != s || e != api.OK {
		t.Errorf("P2.3: Join of Parent and Base of %q: %q, %d", s, p, e)
	}
	if !path.Under(dir, s) || path.Under(s, dir) || path.Depth(dir) != path.Depth(s)-1 || path.Depth(base) != 1 {
		t.Errorf("P2.2: %q is not one name below its parent %q", s, dir)
	}
}

func TestWhatFollows(t *testing.T) {
	for _, l := range [][]string{paths(), noPaths(), someTexts()} {
		for _, s := range l {
			checkFollows(t, s)
		}
	}
}

func TestUnderHoldsTogether(t *testing.T) {
	l := append(paths(), "/", "a/", "a//b", "..", "a\x00", path101)
	everyText("ab/", 5, func(s string) {
		if path.Is(s) {
			l = append(l, s)
		}
	})
	below := map[string][]string{}
	for _, dir := range l {
		for _, s := range l {
			if path.Under(dir, s) {
				below[dir] = append(below[dir], s)
			}
			if path.Under(dir, s) && path.Under(s, dir) && dir != s {
				t.Errorf("P2.3: %q and %q are under each other", dir, s)
			}
		}
	}
	for dir, mid := range below {
		for _, m := range mid {
			for _, s := range below[m] {
				if !path.Under(dir, s) {
					t.Errorf("P2.3: %q is under %q, that under %q", s, m, dir)
				}
			}
		}
	}
}

func FuzzWhatFollows(f *testing.F) {
	for _, s := range append(paths(), noPaths()...) {
		if len(s) < 500 {
			f.Add(s)
		}
	}
	f.Fuzz(checkFollows)
}
