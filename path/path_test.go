package path_test

import (
	"fmt"
	"math/rand"
	"slices"
	"strings"
	"testing"

	"variorum/api"
	"variorum/path"
)

// runesAt: each byte alone, and texts and bytes that are none.
func runesAt() []string {
	var l []string
	for c := range 256 {
		l = append(l, string([]byte{byte(c)}))
	}
	return append(l, "é", "€", "\U0001f600", "\u0080", "\u009f", "\ufffd", "\ufeff", "\xc3", "\xed\xa0\x80", "\xc0\xaf", "\xf4\x90\x80\x80")
}

// P7.1: names: their bytes, their first one, their length, the head's.
func TestName(t *testing.T) {
	inner := "abcdefghijklmnopqrstuvwxyzABCDEFGHIJKLMNOPQRSTUVWXYZ0123456789-_."
	first := strings.Trim(inner, "-.")
	first = strings.ReplaceAll(strings.ReplaceAll(first, "-", ""), ".", "")
	for _, s := range runesAt() {
		if got, want := path.Name(s), strings.Contains(first, s); got != want {
			t.Errorf("%q: %t", s, got)
		}
		if got, want := path.Name("a"+s), strings.Contains(inner, s); got != want {
			t.Errorf("%q behind a: %t", s, got)
		}
		if got, want := path.Name("a"+s+"b"), strings.Contains(inner, s); got != want {
			t.Errorf("%q between a and b: %t", s, got)
		}
	}
	for s, want := range map[string]bool{
		"": false, "HEAD": false, "HEADS": true, "head": true, "Head": true, "HEA": true, "main": true, "n.main": true,
		"_": true, "a.": true, "a-": true, "..": false, "a..b": true, ".a": false, "-a": false, "a/b": false, "a b": false,
		strings.Repeat("a", 32): true, strings.Repeat("a", 33): false,
		strings.Repeat("0", 32): true, strings.Repeat("0", 64): false, strings.Repeat("f", 64): false,
	} {
		if got := path.Name(s); got != want {
			t.Errorf("%q: %t", s, got)
		}
	}
}

// P7.1: authors: texts of 1 to 32 bytes without runes that are not seen.
func TestAuthor(t *testing.T) {
	for s, want := range map[string]bool{
		"": false, "Ann": true, "Ann B. /~": true, "é": true, "\x1f": false, "\x20": true, "\x7e": true, "\x7f": false, "\u0080": true,
		"a\nb": false, "a\x00": false, "a\xff": false, "\xc3": false, "\ufffd": true, "\U0010ffff": true, "\xed\xa0\x80": false,
		strings.Repeat("a", 32): true, strings.Repeat("a", 33): false,
		strings.Repeat("é", 16): true, strings.Repeat("é", 16) + "a": false, "a" + strings.Repeat("é", 16): false,
	} {
		if got := path.Author(s); got != want {
			t.Errorf("%q: %t", s, got)
		}
	}
}

// P7.1: notes: texts of at most 256 bytes, of any runes.
func TestNote(t *testing.T) {
	for s, want := range map[string]bool{
		"": true, "a\nb\x00\x7f": true, "é€": true, "\xff": false, "a\xc3": false,
		strings.Repeat("a", 256): true, strings.Repeat("a", 257): false,
		strings.Repeat("é", 128): true, strings.Repeat("é", 128) + "a": false, strings.Repeat("\xff", 300): false,
	} {
		if got := path.Note(s); got != want {
			t.Errorf("%q: %t", s, got)
		}
	}
}

// P7.1: paths and their parts.
func TestPath(t *testing.T) {
	for s, want := range map[string][]string{
		"a/b.txt": {"a", "b.txt"}, "é": {"é"}, "a~1": {"a~1"}, "a": {"a"}, "a/b/c": {"a", "b", "c"}, "a b/ /c": {"a b", " ", "c"},
		"...": {"..."}, "a/.b": {"a", ".b"}, "a./b": {"a.", "b"}, "..a/a..": {"..a", "a.."}, "\u0080/€": {"\u0080", "€"}, "\\": {"\\"},
		"HEAD": {"HEAD"}, "-": {"-"}, "\ufffd": {"\ufffd"},
		strings.Repeat("a", 64): {strings.Repeat("a", 64)}, strings.Repeat("é", 32): {strings.Repeat("é", 32)},
		strings.Repeat("a/", 31) + "ab": append(strings.Split(strings.Repeat("a", 31), ""), "ab"),
		"":                              nil, "/": nil, "//": nil, "a//b": nil, "/a": nil, "a/": nil, ".": nil, "..": nil, "a/..": nil, "../a": nil, "a/./b": nil, "./a": nil, "a/.": nil,
		"a\nb": nil, "a/\x00": nil, "\x1f": nil, "\x7f": nil, "a\xff": nil, "\xc3": nil, "\xed\xa0\x80": nil, "a/\xe2\x82": nil,
		strings.Repeat("a", 65): nil, strings.Repeat("é", 32) + "a": nil, strings.Repeat("a/", 32): nil,
	} {
		if got := path.Parts(s); !slices.Equal(got, want) {
			t.Errorf("%q: %q", s, got)
		}
		if got := path.Path(s); got != (want != nil) {
			t.Errorf("%q: %t", s, got)
		}
	}
}

// P7.1: parts are new memory.
func TestPartsNew(t *testing.T) {
	one := path.Parts("a/b")
	one[0] = "x"
	if two := path.Parts("a/b"); two[0] != "a" {
		t.Error(two)
	}
}

// P7.1: a file's bytes; that they are too many is told first.
func TestBytes(t *testing.T) {
	for s, want := range map[string]api.Errno{
		"": api.OK, "a\n": api.OK, "\x00\x1f\x7f": api.OK, "é€": api.OK, "\xff": api.ErrText, "a\xc3": api.ErrText, "\xc0\x80": api.ErrText,
		strings.Repeat("a", 4096): api.OK, strings.Repeat("a", 4097): api.ErrLong, strings.Repeat("é", 2048): api.OK,
		strings.Repeat("é", 2048) + "a": api.ErrLong, strings.Repeat("\xff", 4096): api.ErrText, strings.Repeat("\xff", 4097): api.ErrLong,
	} {
		if got := path.Bytes(s); got != want {
			t.Errorf("%.10q, %d bytes: %d", s, len(s), got)
		}
	}
}

// P7.2: which paths clash, either way round.
func TestClash(t *testing.T) {
	for _, c := range []struct {
		a, b string
		want bool
	}{
		{"a", "a", true}, {"a", "a/b", true}, {"a", "a/b/c", true}, {"a/b", "a/b/c", true}, {"a", "a/", true}, {"", "", true}, {"", "/", true}, {"", "/a", true}, {"a/", "a//b", true},
		{"a", "b", false}, {"a", "ab", false}, {"a", "ab/c", false}, {"a/b", "a/c", false}, {"a/b", "a/bc", false}, {"a/b", "ab", false}, {"", "a", false}, {"", "a/b", false},
		{"a", "A", false}, {"é", "é/a", true}, {"\xff", "\xff/\xfe", true}, {"a/b", "b", false}, {"b", "a/b", false}, {"a/", "a/b", false}, {"/", "/a", false},
	} {
		if path.Clash(c.a, c.b) != c.want || path.Clash(c.b, c.a) != c.want {
			t.Errorf("%q, %q: not %t", c.a, c.b, c.want)
		}
	}
}

// P7.2: the examples of fresh paths, and others.
func TestFresh(t *testing.T) {
	for _, c := range []struct {
		path  string
		taken []string
		want  string
	}{
		{"a", []string{"a", "a~1"}, "a~2"}, {"a", []string{"a/b"}, "a~1"}, {"a/b", []string{"a"}, "a~1/b"},
		{"a", nil, "a"}, {"a", []string{}, "a"}, {"a", []string{"b", "ab", "a~1"}, "a"}, {"", nil, ""},
		{"a", []string{"a~1/x", "a"}, "a~2"}, {"a", []string{"a~2", "a", "a~1", "a~4"}, "a~3"}, {"a", []string{"a", "a~2"}, "a~1"},
		{"a/b", []string{"a/b"}, "a~1/b"}, {"a/b", []string{"a/b", "a~1"}, "a~2/b"}, {"a/b", []string{"a/b", "a~1/c"}, "a~1/b"}, {"a/b", []string{"a/b/c", "a~1/b"}, "a~2/b"},
		{"a/b", []string{"a/c"}, "a/b"}, {"a/b", []string{"a/b", "a~01/b", "a~+1/b", "a~1x", "a~0", "a~-1", "a~"}, "a~1/b"},
		{"a~1", []string{"a~1"}, "a~1~1"}, {"a~1", []string{"a~1", "a~1~1"}, "a~1~2"}, {"", []string{""}, "~1"}, {"/a", []string{""}, "~1/a"}, {"/a", []string{"/a", "~1"}, "~2/a"},
		{"a", []string{"a", "a~99999999999999999999", "a~1"}, "a~2"}, {"\xff", []string{"\xff"}, "\xff~1"}, {"a", []string{"a", "a", "a~1", "a~1"}, "a~2"},
	} {
		given := append(slices.Clone(c.taken), "spare")[:len(c.taken)]
		if got := path.Fresh(c.path, given); got != c.want {
			t.Errorf("%q with %q: %q", c.path, c.taken, got)
		}
		if !slices.Equal(given, c.taken) || given[:len(given)+1][len(given)] != "spare" {
			t.Errorf("%q: what is taken is changed: %q", c.path, given)
		}
	}
}

// plainFresh goes through the numbers, as the words have it.
func plainFresh(p string, taken []string) string {
	free := func(p string) bool {
		return !slices.ContainsFunc(taken, func(o string) bool {
			return o == p || strings.HasPrefix(o, p+"/") || strings.HasPrefix(p, o+"/")
		})
	}
	if free(p) {
		return p
	}
	first, behind, more := strings.Cut(p, "/")
	if more {
		behind = "/" + behind
	}
	for n := 1; ; n++ {
		if f := fmt.Sprint(first, "~", n, behind); free(f) {
			return f
		}
	}
}

// P7.2: any paths among any that are taken.
func TestFreshAny(t *testing.T) {
	chance := rand.New(rand.NewSource(7))
	parts := []string{"a", "b", "a~1", "a~2", "a~3", "b~1", "b~2", "a~10", "a~1~1", ""}
	some := func() string {
		var l []string
		for range 1 + chance.Intn(3) {
			l = append(l, parts[chance.Intn(len(parts))])
		}
		return strings.Join(l, "/")
	}
	for range 20000 {
		var taken []string
		for range chance.Intn(12) {
			taken = append(taken, some())
		}
		p := some()
		if got, want := path.Fresh(p, taken), plainFresh(p, taken); got != want {
			t.Fatalf("%q with %q: %q, not %q", p, taken, got, want)
		}
	}
}

// P7.2: many that are taken.
func TestFreshMany(t *testing.T) {
	taken := []string{"a"}
	for n := 100000; n > 0; n-- {
		taken = append(taken, fmt.Sprint("a~", n))
	}
	if got := path.Fresh("a", taken); got != "a~100001" {
		t.Error(got)
	}
	if got := path.Fresh("a/b", taken[1:]); got != "a/b" {
		t.Error(got)
	}
}

// files are those of paths and bytes in turns.
func files(l ...string) []api.File {
	var files []api.File
	for i := 0; i < len(l); i += 2 {
		files = append(files, api.File{Path: l[i], Bytes: l[i+1]})
	}
	return files
}

// P7.3: trees, and why there may be none; of several errors the first file's, and its first.
func TestTree(t *testing.T) {
	long := strings.Repeat("x", 4097)
	for _, c := range []struct {
		tree []api.File
		want api.Errno
	}{
		{nil, api.OK}, {files("a", "x"), api.OK}, {files("b", "", "a/b", "é", "a/c", "x"), api.OK},
		{files("", "x"), api.ErrName}, {files("a/../b", "x"), api.ErrName}, {files("..", long), api.ErrName}, {files("a", "", "/", "\xff"), api.ErrName},
		{files("a", long), api.ErrLong}, {files("a", "\xff"), api.ErrText}, {files("a", "", "a", long), api.ErrLong}, {files("a", "", "a", "\xff"), api.ErrText},
		{files("a", "", "a", ""), api.ErrThere}, {files("a", "", "a/b", ""), api.ErrThere}, {files("a/b", "", "c", "", "a", ""), api.ErrThere},
		{files("a", "", "a", "", "", ""), api.ErrThere}, {files("", "", "a", "", "a", ""), api.ErrName}, {files("a", "\xff", "b", long, "", ""), api.ErrText},
	} {
		if got := path.Tree(c.tree); got != c.want {
			t.Errorf("%.40q: %d", c.tree, got)
		}
	}
	var files []api.File
	for n := range 65 {
		files = append(files, api.File{Path: fmt.Sprint("d/", n), Bytes: "x"})
	}
	if e := path.Tree(files[:64]); e != api.OK {
		t.Error("64 files:", e)
	}
	if e := path.Tree(files); e != api.ErrFull {
		t.Error("65 files:", e)
	}
	files[0] = api.File{Path: "..", Bytes: long}
	if e := path.Tree(files); e != api.ErrFull {
		t.Error("65 files, the first wrong:", e)
	}
	files[63].Path = "d/1"
	if e := path.Tree(files[1:64]); e != api.ErrThere {
		t.Error("the last one clashes:", e)
	}
}
