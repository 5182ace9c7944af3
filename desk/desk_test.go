package desk_test

import (
	"math/rand"
	"slices"
	"strings"
	"testing"

	"variorum/api"
	"variorum/desk"
)

// does runs lines, and tells what they tell, line by line.
func does(t *testing.T, lines ...string) []string {
	t.Helper()
	out, e := desk.Run(strings.Join(lines, "\n"))
	if e != api.OK {
		t.Fatalf("error %d", e)
	}
	if out == "" {
		return nil
	}
	if !strings.HasSuffix(out, "\n") {
		t.Fatalf("%q", out)
	}
	return strings.Split(strings.TrimSuffix(out, "\n"), "\n")
}

// tells fails, unless lines tell just these.
func tells(t *testing.T, lines []string, want ...string) {
	t.Helper()
	if got := does(t, lines...); !slices.Equal(got, want) {
		t.Errorf("%q\ntells %q\nwant  %q", lines, got, want)
	}
}

// id is what a line tells that made a commit, or found one: its digits.
func id(t *testing.T, line string) string {
	t.Helper()
	digits, ok := strings.CutPrefix(line, "id ")
	if !ok || len(digits) != 64 || strings.Trim(digits, "0123456789abcdef") != "" {
		t.Fatalf("%q is no id", line)
	}
	return digits
}

// Ten examples of the whole, one behind the other.
func TestTenExamples(t *testing.T) {
	var script []string
	told := 0
	// next does more lines behind all those ahead, and tells what they tell.
	next := func(lines ...string) []string {
		t.Helper()
		script = append(script, lines...)
		out := does(t, script...)
		more := out[told:]
		told = len(out)
		return more
	}
	same := func(what string, got []string, want ...string) {
		t.Helper()
		if !slices.Equal(got, want) {
			t.Fatalf("%s: %q; want %q", what, got, want)
		}
	}
	one := next(`put a one\ntwo\n`, "commit first")
	first := id(t, one[0])
	same("1", one, "id "+first)
	same("2", next("branch dev -", "switch dev"), "id "+first, "id "+first)
	three := next(`put a one\nTWO\n`, "commit dev", "switch main", `put a ONE\ntwo\n`, "commit main")
	same("3", three, "id "+id(t, three[0]), "id "+first, "id "+id(t, three[2]))
	four := next("merge dev both", "checkout -")
	both := id(t, four[0])
	same("4", four, "id "+both, `file a ONE\nTWO\n`)
	runs := next("blame - a")
	changes := map[string]int{}
	text := ""
	for _, line := range runs {
		parts := strings.SplitN(line, " ", 4)
		if len(parts) != 4 || parts[0] != "run" || len(parts[1]) != 8 || parts[2] != "me" {
			t.Fatalf("5: %q", runs)
		}
		changes[parts[1]]++
		text += parts[3]
	}
	if text != `ONE\nTWO\n` || len(changes) != 3 {
		t.Fatalf("5: %q", runs)
	}
	same("6", next("put b x", "mv a c", "status"), "add b 1", "move a c 0")
	log := next("commit third", "log -")
	third := id(t, log[0])
	log = log[1:]
	same("7", log, third+" 5 me third", both+" 4 me both", id(t, three[2])+" 3 me main", id(t, three[0])+" 2 me dev", first+" 1 me first")
	same("8", next("node 1", "fetch 0 n.", "checkout n.main"), "file b x", `file c ONE\nTWO\n`)
	same("9", next("gc", "repack 1 2 3", "crash 5 5 5", "log n.main"), log...)
	same("10", next("drop nope", "commit"), "error 4", "error 20")
}

// The chapter's examples.
func TestExamples(t *testing.T) {
	out := does(t, "put a hi", "commit first", "log -")
	if len(out) != 2 || out[1] != id(t, out[0])+" 1 me first" {
		t.Errorf("%q", out)
	}
	tells(t, []string{"put a", "tree"}, "file a ")
	tells(t, []string{"commit x", "node 3", "put", "merge"}, "error 13", "error 20", "error 20", "error 20")
}

// P28.1: scripts that are too long, or no texts.
func TestRun(t *testing.T) {
	most := 1 << 16
	for _, c := range []struct {
		script, want string
		e            api.Errno
	}{
		{"", "", api.OK},
		{"\n\n\n", "", api.OK},
		{"#" + strings.Repeat("x", most-1), "", api.OK},
		{"#" + strings.Repeat("x", most), "", api.ErrLong},
		{strings.Repeat(" ", most-4) + "tree", "", api.OK},
		{strings.Repeat("\n", most), "", api.OK},
		{strings.Repeat("\n", most+1), "", api.ErrLong},
		{strings.Repeat("\xff", most+1), "", api.ErrLong},
		{strings.Repeat("\xff", most), "", api.ErrText},
		{"nope\n\xff", "", api.ErrText},
		{"# \xc0\x80", "", api.ErrText},
		{"# \xed\xa0\x80", "", api.ErrText},
		{"put a \xe2\x82\ntree", "", api.ErrText},
		{"put é\u00a0 \u2028\x00\ntree", "file é\u00a0 \u2028\x00\n", api.OK},
		{"nope", "error 20\n", api.OK},
		{"nope\n", "error 20\n", api.OK},
		{"\nnope\nput a x\ntree", "error 20\nfile a x\n", api.OK},
	} {
		if got, e := desk.Run(c.script); got != c.want || e != c.e {
			t.Errorf("%.20q: %.40q, %d; want %q, %d", c.script, got, e, c.want, c.e)
		}
	}
}

// P28.2: texts, and what is escaped.
func TestEscape(t *testing.T) {
	for text, want := range map[string]string{
		"": "", "a": "a", "\n": `\n`, `\`: `\\`, `\n`: `\\n`, "\\\n": `\\\n`, "\n\n": `\n\n`, `\\`: `\\\\`,
		"a\nb\\c\n": `a\nb\\c\n`, "\r\t\x00": "\r\t\x00", "é\xff": "é\xff", "nn": "nn",
	} {
		if got := desk.Escape(text); got != want {
			t.Errorf("%q: %q; want %q", text, got, want)
		}
		if got, ok := desk.Unescape(want); got != text || !ok {
			t.Errorf("%q: %q, %t; want %q", want, got, ok, text)
		}
	}
	for _, wrong := range []string{`\`, `\\\`, `a\`, `\a`, `\N`, `\ n`, `\` + "\n", `n\`, `\n\`, `\\\t`, `ok\n\x`, "\\\xff", `\é`, `\n\n\0`} {
		if got, ok := desk.Unescape(wrong); got != "" || ok {
			t.Errorf("%q: %q, %t", wrong, got, ok)
		}
	}
	if got, ok := desk.Unescape("a\nb"); got != "a\nb" || !ok { // there is no backslash that could be wrong
		t.Errorf("%q, %t", got, ok)
	}
}

// P28.3: Unescape of Escape is the text.
func TestEscapeAny(t *testing.T) {
	r := rand.New(rand.NewSource(1))
	signs := "\\\\\\\n\nnna \xff\x00"
	for range 20000 {
		var b []byte
		for range r.Intn(12) {
			b = append(b, signs[r.Intn(len(signs))])
		}
		text := string(b)
		got, ok := desk.Unescape(desk.Escape(text))
		if got != text || !ok || strings.Contains(desk.Escape(text), "\n") {
			t.Fatalf("%q: %q, %t", text, got, ok)
		}
		back, ok := desk.Unescape(text)
		plain := strings.NewReplacer(`\\`, "", `\n`, "").Replace(text)
		if ok == strings.Contains(plain, `\`) || ok && !strings.Contains(text, "\n") && desk.Escape(back) != text {
			t.Fatalf("%q: %q, %t", text, back, ok)
		}
	}
}

// P28.1: lines that are wrong tell error 20, and do nothing else.
func TestWrong(t *testing.T) {
	begin := []string{`put a x`, "commit first", "node 1", "fetch 0 n.", "branch main n.main", "checkout -", "put b y", "mv a c"}
	end := []string{"tree", "status", "refs", "reflog", "commit second", "log -", "blame - c", "node 0", "tree", "refs", "reflog", "log -"}
	want := does(t, slices.Concat(begin, end)...)
	place := len(does(t, begin...))
	for _, line := range []string{
		"nope", "Node 1", "NODE 1", "node1", "nodes 1", "-", "\\", "\ttree", "tree\t", "tree\r", "putt a", "comm it", "x put a x",
		"node", "node 3", "node 00", "node 01", "node +1", "node -1", "node -0", "node 1.", "node 1_0", "node 0x1", "node 2147483648", "node 4294967296", "node 18446744073709551616", "node ٢", "node a", "node -", "node 0 0", "node 0 #", "node \"0\"",
		"author", "author ", "author   ", " author x", "author \\", `author x\`, `author \x`, `author x \ny \z`,
		"stamp", "stamp 01", "stamp 2147483648", "stamp 99999999999999999999", "stamp -1", "stamp 1 2", "stamp x", "stamp 1e3",
		"put", "put ", "put  ", " put z x", "put  z x", " put z", "put  z", `put z \`, `put z x\`, `put z \a`, `put z \\\`, `put z \n\ `,
		"rm", "rm ", "rm b b", "rm b #",
		"mv", "mv b", "mv b ", "mv b c d", "mv",
		"commit", "commit ", "commit    ", " commit x", `commit \`, `commit x\x`,
		"checkout", "checkout - -", "checkout n.main x",
		"branch", "branch x", "branch x - -", "branch x -  y", "tag", "tag x", "tag x - -", "drop", "drop n.main n.main", "untag", "untag a b", "switch", "switch n.main -",
		"log", "log - -", "blame", "blame -", "blame - a b", "diff", "diff -", "diff - - -", "reflog -", "reflog x", "refs -", "gc -", "gc now", "status -", "status b", "tree -", "tree b",
		"merge", "merge ", "merge -", "merge - ", "merge -   ", " merge n.main x", "merge  n.main x", `merge n.main \`, `merge n.main x\y`,
		"pick", "pick -", "pick - ", " pick n.main x", "pick  n.main x", `pick n.main \x`,
		"repack x", "repack 1 x", "repack 01", "repack 1 2 -", "repack -1", "repack 2147483648", "repack 0 00",
		"fetch", "fetch ", "fetch x", "fetch x n.", "fetch 00", "fetch 00 z.", "fetch -1 z.", "fetch 2147483648 z.", " fetch 0 z.", "fetch  0 z.", " fetch 0", "fetch  0", `fetch 0 \`, `fetch 0 z\`, `fetch 0 \z`,
		"push", "push 0", "push x main", "push 0 main main", "push 00 main", "push -1 main", "push 2147483648 main", "push main 0",
		"force", "force 0", "force x main", "force 0 main -", "force 01 main", "force main 0",
		"crash x", "crash 1 x", "crash 01", "crash -1", "crash 2147483648", "crash 1 -",
	} {
		got := does(t, slices.Concat(begin, []string{line}, end)...)
		if !slices.Equal(got, slices.Insert(slices.Clone(want), place, "error 20")) {
			t.Errorf("%q: %q", line, got)
		}
	}
}

// P28.3: lines that do nothing change nothing.
func TestNothing(t *testing.T) {
	script := []string{"put a x", "commit first", "author Bob", "mv a b", "status", "commit second", "log -", "node 1", "fetch 0 n.", "tree", "refs", "node 0", "tree", "reflog", "commit", "nope"}
	want := does(t, script...)
	for _, line := range []string{"", " ", "     ", "#", "# put a y", "#put a y", "   # commit x", "## \\", "#\\x", "#\t", "  #"} {
		var more []string
		for _, one := range script {
			more = append(more, line, one)
		}
		tells(t, append(more, line), want...)
	}
}

// P28.1: where blanks may stand, and what REST is.
func TestBlanks(t *testing.T) {
	for line, want := range map[string]string{
		"put a":           "file a ",
		"put a ":          "file a ",
		"put a  ":         "file a  ",
		"put a    ":       "file a    ",
		"put a x":         "file a x",
		"put a  x":        "file a  x",
		"put a x ":        "file a x ",
		"put a x  y  ":    "file a x  y  ",
		"put a #":         "file a #",
		`put a \n`:        `file a \n`,
		`put a \\n`:       `file a \\n`,
		`put a \\\n\\`:    `file a \\\n\\`,
		"put a \t":        "file a \t",
		"put -":           "file - ",
		"put # x":         "file # x",
		`put \ x`:         `file \ x`,
		`put \n x`:        `file \n x`,
		`put a\\b x\\y`:   `file a\\b x\\y`,
		"put ../../x/ x":  "file ../../x/ x",
		"put put put":     "file put put",
		"put a\tb c":      "file a\tb c",
		"put a\u00a0b c":  "file a\u00a0b c",
		"put a x\u2003  ": "file a x\u2003  ",
	} {
		tells(t, []string{line, "tree"}, want)
		tells(t, []string{line, "   tree  "}, want)
	}
	tells(t, []string{"put a x", "put b y", "  rm   a  ", "tree"}, "file b y")
	tells(t, []string{"put a x", " mv  a   c ", " tree"}, "file c x")
	tells(t, []string{" node  1 ", "put a x", "tree", "  node 0", "tree", "node 1  ", "tree"}, "file a x", "file a x")
	log := func(lines ...string) string {
		t.Helper()
		out := does(t, slices.Concat([]string{"put a x"}, lines, []string{"   log    -   "})...)
		last := out[len(out)-1]
		if len(last) < 65 {
			return last
		}
		return last[65:]
	}
	for _, c := range [][2]string{
		{"commit x", "1 me x"}, {"commit  x ", "1 me  x "}, {`commit \n`, `1 me \n`}, {`commit a\\b\nc`, `1 me a\\b\nc`}, {"commit #", "1 me #"}, {"commit -", "1 me -"},
	} {
		if got := log(c[0]); got != c[1] {
			t.Errorf("%q: %q; want %q", c[0], got, c[1])
		}
	}
	for _, c := range [][2]string{
		{"author Ann", "1 Ann x"}, {"author  Ann B.", "1  Ann B. x"}, {"author Ann ", "1 Ann  x"}, {`author a\\b`, `1 a\\b x`}, {"author #", "1 # x"}, {"stamp 0", "0 me x"}, {" stamp  2147483647 ", "2147483647 me x"}, {"stamp 7\nstamp 10", "10 me x"},
	} {
		if got := log(c[0], "commit x"); got != c[1] {
			t.Errorf("%q: %q; want %q", c[0], got, c[1])
		}
	}
}

// P28.1: what each answer is told as.
func TestTold(t *testing.T) {
	none := strings.Repeat("0", 64)
	begin := []string{`put a one\ntwo\\`, "put b", "author A. B.", `commit a\nb`}
	first := id(t, does(t, begin...)[0])
	told := "id " + first
	for line, want := range map[string][]string{
		"tree":                               {`file a one\ntwo\\`, "file b "},
		"checkout -":                         {`file a one\ntwo\\`, "file b "},
		"checkout " + first:                  {`file a one\ntwo\\`, "file b "},
		"checkout " + first[1:]:              {"error 4"},
		"branch x -":                         {told},
		"branch - -":                         {"error 10"},
		"branch main -":                      {"error 11"},
		"tag v main":                         {told},
		"tag v nope":                         {"error 4"},
		"drop main":                          {"error 16"},
		"untag v":                            {"error 4"},
		"switch main":                        {told},
		"switch -":                           {told},
		"log -":                              {first + ` 1 A. B. a\nb`},
		"diff - main":                        {told},
		"blame main b":                       {told},
		"blame - c":                          {"error 4"},
		"blame - -":                          {"error 4"},
		"reflog":                             {"branch main " + none + " " + first + ` a\nb`},
		"refs":                               {"head main", "branch main " + first},
		"gc":                                 nil,
		"repack":                             nil,
		"repack 0 1 2147483647":              nil,
		"crash":                              nil,
		"crash 0 1 2147483647":               nil,
		"status":                             nil,
		"merge - x":                          {"error 13"},
		"merge nope x":                       {"error 4"},
		"pick - x":                           {"error 13"},
		"pick nope x":                        {"error 4"},
		"node 2":                             nil,
		"author x":                           nil,
		"stamp 5":                            nil,
		"put c x":                            nil,
		"rm a":                               nil,
		"mv a b":                             nil,
		"rm nope":                            nil,
		"mv nope no":                         nil,
		"fetch 1":                            nil,
		"fetch 1 n.":                         nil,
		"fetch 0":                            {"error 1"},
		"fetch 3":                            {"error 1"},
		"fetch 2147483647 n.":                {"error 1"},
		"fetch 1 " + strings.Repeat("n", 32): nil,
		"fetch 1 " + strings.Repeat("n", 33): {"error 1"},
		"push 1 main":                        nil,
		"push 1 nope":                        {"error 4"},
		"push 1 -":                           {"error 4"},
		"push 0 main":                        {"error 1"},
		"push 3 main":                        {"error 1"},
		"force 2 main":                       nil,
		"force 2 nope":                       {"error 4"},
		"force 2147483647 main":              {"error 1"},
		"force 1 " + strings.Repeat("n", 33): {"error 1"},
	} {
		tells(t, append(slices.Clone(begin), line), append([]string{told}, want...)...)
	}
	out := does(t, append(slices.Clone(begin), `put a one\n`, "commit second", "diff main "+first, "blame - a", "blame "+first+" a")...)
	if len(out) != 8 || !slices.Equal(out[2:6], []string{"file a", "@ 0 0", " one", `+two\\\\`}) {
		t.Errorf("%q", out)
	}
	tells(t, []string{"put - x", "branch - -", "status", "mv - -", "status"}, "error 10", "add - 1", "add - 1") // a path may be -
	if out := does(t, "put - x", "commit y", "blame - -"); len(out) != 2 || !strings.HasSuffix(out[1], " me x") {
		t.Errorf("%q", out)
	}
	for i, text := range map[int]string{6: `one\n`, 7: `one\ntwo\\`} {
		if !strings.HasPrefix(out[i], "run ") || len(out[i]) != 12+len(" A. B. "+text) || !strings.HasSuffix(out[i], " A. B. "+text) {
			t.Errorf("%q", out[i])
		}
	}
}

// P28.1: moves are there till a commit, or a checkout, that has no error; each node has its own.
func TestMoves(t *testing.T) {
	begin := []string{"put a some text", "put b other", "commit first"}
	told := does(t, begin...)
	show := func(want []string, lines ...string) {
		t.Helper()
		if got := does(t, slices.Concat(begin, lines)...); !slices.Equal(got[len(told):], want) {
			t.Errorf("%q: %q; want %q", lines, got[len(told):], want)
		}
	}
	renamed := func(lines ...string) bool { // is c the document that a was? Then what stands there is of the first change
		t.Helper()
		out := does(t, slices.Concat(begin, []string{"author Bob"}, lines, []string{"blame - c"})...)
		return strings.HasSuffix(out[len(out)-1], " me some text")
	}
	for _, c := range []struct {
		lines []string
		want  bool
	}{
		{[]string{"mv a c", "commit x"}, true},
		{[]string{"put c some text", "rm a", "commit x"}, false},
		{[]string{"mv a c", "checkout -", "mv a c", "commit x"}, true},
		{[]string{"mv a c", "checkout nope", "commit x"}, true},
		{[]string{"mv a d", "mv d c", "commit x"}, false}, // d is none of the state's: refused
		{[]string{"mv a c", "author \\n", "commit x", "author Bob", "commit x"}, true},
		{[]string{"mv a c", "checkout -", "put c some text", "rm a", "commit x"}, false},
		{[]string{"mv a c", "node 1", "put z", "commit z", "checkout -", "node 0", "commit x"}, true},
		{[]string{"mv a c", "commit", "nope", "commit x"}, true},
	} {
		if got := renamed(c.lines...); got != c.want {
			t.Errorf("%q: %t", c.lines, got)
		}
	}
	show([]string{"file b some text"}, "mv a b", "tree")
	show([]string{"file a some text", "file b other"}, "mv a a", "mv b b", "tree")
	show([]string{"file a other", "file b some text"}, "mv a c", "mv b a", "mv c b", "tree")
	show([]string{"file a some text", "file b other"}, "mv nope b", "mv nope c", "tree") // nothing stands there
	show([]string{"error 4"}, "mv nope c", "put a new", "commit x")                      // but it is a move
	show([]string{"error 11"}, "mv a c", "put a new", "mv a d", "commit x")              // both from a
	show([]string{"file a some text", "file b other", "error 13"}, "mv nope c", "checkout -", "commit x")
	out := does(t, append(slices.Clone(begin), "mv a c", "commit x", "mv c a", "commit y", "tree")...)
	if !slices.Equal(out[3:], []string{"file a some text", "file b other"}) {
		t.Errorf("%q", out)
	}
	id(t, out[2])
}

// P28.1: the stamp is one more behind each commit, merge and pick, but for lines that are wrong; it and the author are those of all nodes.
func TestStamps(t *testing.T) {
	stamp := func(lines ...string) string {
		t.Helper()
		out := does(t, append(lines, "put at last", "commit x", "log -")...)
		for _, line := range out {
			if parts := strings.SplitN(line, " ", 3); len(parts) == 3 && strings.HasSuffix(line, " x") && len(parts[0]) == 64 {
				return parts[1] + " " + strings.TrimSuffix(parts[2], " x")
			}
		}
		t.Fatalf("%q: %q", lines, out)
		return ""
	}
	for _, c := range []struct {
		want  string
		lines []string
	}{
		{"1 me", nil},
		{"2 me", []string{"put a", "commit y"}},
		{"2 me", []string{"commit nothing"}},
		{"2 me", []string{"merge nope y"}},
		{"2 me", []string{"pick nope y"}},
		{"5 me", []string{"commit y", "merge - y", "pick - y", "merge - \\n"}},
		{"1 me", []string{"commit", "merge -", "pick -", "merge", "pick", "commit \\", "stamp x"}},
		{"1 me", []string{"checkout -", "branch a b", "tree", "put b", "fetch 1", "crash", "gc", "status"}},
		{"3 me", []string{"node 1", "put a", "commit y", "node 2", "commit z"}},
		{"8 Bob", []string{"node 1", "stamp 7", "author Bob", "commit z", "node 0"}},
		{"2147483647 me", []string{"stamp 2147483647"}},
		{"2147483649 me", []string{"stamp 2147483647", "commit x", "commit y"}},
		{"0 me", []string{"commit y", "stamp 0"}},
	} {
		if got := stamp(c.lines...); got != c.want {
			t.Errorf("%q: %s; want %s", c.lines, got, c.want)
		}
	}
}

// P28.1: a checkout that has an error leaves the tree as it is; nodes have their own.
func TestTrees(t *testing.T) {
	tells(t, []string{"put b y", "put a x", "checkout -", "tree"}, "error 4", "file a x", "file b y")
	tells(t, []string{"put a x", "node 1", "tree", "put a y", "node 2", "put c", "node 0", "tree", "node 1", "tree", "node 2", "rm c", "tree", "rm c"}, "file a x", "file a y")
	tells(t, []string{"put b", "put a/b", "put a.b", "put B", "put é", "put aa", "put a~1", "put a", "tree"}, "file B ", "file a ", "file a.b ", "file a/b ", "file aa ", "file a~1 ", "file b ", "file é ")
	tells(t, []string{"put a x", "put a/b y", "tree", "commit x", "rm a", "put a//b", "commit x"}, "file a x", "file a/b y", "error 11", "error 10")
	tells(t, []string{"put a " + strings.Repeat("x", 4097), "commit x", "put a", "author \\n", "commit x", "author me", "commit " + strings.Repeat("x", 257)}, "error 2", "error 10", "error 1")
	out := does(t, "put a x", "commit x", "put b y", "put c z", "branch dev -", "rm a", "commit y", "checkout dev", "tree", "node 1", "checkout dev", "put d", "tree")
	if !slices.Equal(out[3:], []string{"file a x", "file a x", "error 4", "file d "}) {
		t.Errorf("%q", out)
	}
}

// long is a script behind which a session with node 0 takes some 400 turns, one for each 256 bytes.
func long(more int) []string {
	lines := []string{"put a " + strings.Repeat("x", 4000), "commit x", "tag v -"}
	for range 22 { // each puts the same text once more
		lines = append(lines, "rm a", "commit gone", "checkout v", "commit again")
	}
	return append(lines, "rm a", "put b "+strings.Repeat("y", 600+more), "commit last")
}

// P28.1: a session has 400 turns, and no more.
func TestTurns(t *testing.T) {
	took := func(more int, end ...string) (int, []string) {
		t.Helper()
		lines := append(long(more), end...)
		p := run(strings.Join(lines, "\n"))
		return p.turns[len(p.turns)-1], does(t, lines...)
	}
	for _, end := range [][]string{{"node 1", "fetch 0 n.", "refs"}, {"untag v", "push 2 main", "node 2", "refs"}} {
		met := map[int]int{}
		for more := -256; more <= 512; more += 256 {
			n, out := took(more, end...)
			met[n]++
			there := strings.HasPrefix(out[len(out)-1], "branch ") || strings.HasPrefix(out[len(out)-1], "tag ")
			failed := slices.Contains(out, "error 19")
			if there != (n <= 400) || failed != (n > 400) {
				t.Errorf("%d turns: %q", n, out[len(out)-3:])
			}
		}
		if met[400] == 0 || met[401] == 0 { // the edge
			t.Errorf("%v", met)
		}
	}
}

// P28.1: there are 64 sessions, and no more.
func TestSessions(t *testing.T) {
	lines := []string{"put a x", "commit x", "node 1"}
	for i := range 63 {
		lines = append(lines, []string{"fetch 0 n.", "push 2 n.main", "fetch 0", "force 0 n.main"}[i%4])
	}
	lines = append(lines, "fetch 1", "fetch 3", "push 1 main") // no sessions
	out := does(t, append(slices.Clone(lines), "node 2", "fetch 0 late.", "fetch 0 later.", "push 0 n.main", "force 0 n.main", "refs")...)
	digits := id(t, out[0])
	if want := []string{"error 1", "error 1", "error 1", "error 3", "error 3", "error 3", "head main", "branch late.main " + digits, "branch late.n.main " + digits, "branch n.main " + digits}; !slices.Equal(out[1:], want) {
		t.Errorf("%q", out)
	}
}

// P28.1: pushes, with force and without it.
func TestPush(t *testing.T) {
	begin := []string{"put a x", "commit first", "push 1 main", "node 1", "checkout main", "put a xy", "commit second", "node 0", "put a xyz", "commit third"}
	out := does(t, append(slices.Clone(begin), "push 1 main", "node 1", "refs", "node 0", "force 1 main", "node 1", "refs")...)
	first, second, third := id(t, out[0]), id(t, out[2]), id(t, out[3])
	if want := []string{"file a x", "id " + second, "id " + third, "error 14", "head main", "branch main " + second, "head main", "branch main " + third}; !slices.Equal(out[1:], want) {
		t.Errorf("%q; want %q (the first one is %s)", out, want, first)
	}
}
