package desk_test

import (
	"math/rand"
	"slices"
	"strconv"
	"strings"
	"testing"

	"variorum/desk"
)

// writer writes lines of scripts.
type writer struct{ *rand.Rand }

func (w writer) pick(l ...string) string { return l[w.Intn(len(l))] }

func (w writer) name() string {
	return w.pick("main", "dev", "dev", "n.main", "n.dev", "v", "-", "-", "-.")
}

func (w writer) path() string { return w.pick("a", "a", "b", "c", "d/e", `x\y`, "é") }

// number is one, or what is none.
func (w writer) number() string {
	if w.Intn(15) == 0 {
		return w.pick("00", "01", "-1", "+1", "x", "2147483648", "2147483647", "99999999999999999999", "1.")
	}
	return strconv.Itoa(w.Intn(4))
}

// node is mostly one that there is.
func (w writer) node() string {
	if w.Intn(8) == 0 {
		return w.number()
	}
	return w.pick("0", "1", "2")
}

// rest is one, or nothing, and sometimes wrong.
func (w writer) rest() string {
	if w.Intn(20) == 0 {
		return w.pick("", " ", "   ", " \\", ` a\`, ` \a`, ` ok\n\ `)
	}
	s := " "
	for range 1 + w.Intn(6) {
		s += w.pick("one", "two", "three", " ", " ", `\n`, `\n`, `\\`, "x", "é")
	}
	return s
}

// line is one, its words apart by one blank.
func (w writer) line() string {
	switch w.Intn(26) {
	case 0, 1, 2, 3, 4:
		return "put " + w.path() + w.rest()
	case 5, 6, 7:
		return "commit" + w.rest()
	case 8:
		return w.pick("rm "+w.path(), "mv "+w.path()+" "+w.path(), "rm "+w.path()+"\nstatus", "mv a new\nstatus")
	case 9, 10:
		return "checkout " + w.name()
	case 11, 12:
		return w.pick("branch ", "branch ", "tag ", "tag ", "diff ") + w.name() + " " + w.name()
	case 13:
		return w.pick("drop ", "untag ", "log ") + w.name()
	case 14, 15:
		return "switch " + w.pick("main", "dev", "n.main")
	case 16, 17:
		return w.pick("merge ", "merge ", "pick ") + w.name() + w.rest()
	case 18:
		return "blame " + w.name() + " " + w.path()
	case 19, 20:
		return "node " + w.node()
	case 21:
		return "fetch " + w.node() + w.pick("", " n.", " n.", w.rest())
	case 22:
		return w.pick("push ", "push ", "force ") + w.node() + " " + w.pick("main", "main", w.name())
	case 23:
		return w.pick("repack", "crash") + w.pick("", " "+w.number(), " "+w.number()+" "+w.number())
	case 24:
		return w.pick("author"+w.rest(), "author Ann", "author Bob", "stamp "+w.number(), "stamp "+w.number(), "stamp 2147483647")
	}
	return w.pick("reflog", "refs", "gc", "status", "tree", "status", "tree", "", "#", "nope")
}

// blurred is a line with some fault or other, or with more blanks than it must have.
func (w writer) blurred(line string) string {
	place := w.Intn(len(line) + 1)
	words := strings.Split(line, " ")
	switch w.Intn(6) {
	case 0:
		return line[:place] + " " + line[place:]
	case 1:
		return strings.ReplaceAll(line, " ", "  ")
	case 2:
		return strings.Repeat(" ", 1+w.Intn(3)) + line
	case 3:
		return line + w.pick(" ", "  ", " x", " 1", " #", "\\")
	case 4:
		return strings.Join(words[:w.Intn(len(words)+1)], " ")
	}
	return strings.Join(slices.Insert(words, w.Intn(len(words)+1), w.pick("x", "", "1", "-", "#")), " ")
}

// script is a script, with many faults or few.
func (w writer) script() []string {
	var lines []string
	faults := 3 + w.Intn(40)
	for range 20 + w.Intn(150) {
		line := w.line()
		if w.Intn(faults) == 0 {
			line = strings.ToValidUTF8(w.blurred(line), "")
		}
		lines = append(lines, line)
	}
	return lines
}

// P28.1, P28.3: random scripts tell what a plain desk tells.
func TestScripts(t *testing.T) {
	met := map[string]int{}
	for seed := range int64(600) {
		lines := writer{rand.New(rand.NewSource(seed))}.script()
		got, want := does(t, lines...), run(strings.Join(lines, "\n")).out
		for i := range max(len(got), len(want)) {
			if i >= len(got) || i >= len(want) || got[i] != want[i] {
				t.Fatalf("seed %d, told %d: %q; want %q\n%s", seed, i, got[min(i, len(got)):], want[min(i, len(want)):], strings.Join(lines, "\n"))
			}
		}
		for _, line := range got {
			words := strings.SplitN(line, " ", 3)
			met[words[0]]++
			if words[0] == "error" {
				met[line]++
			}
		}
	}
	for _, what := range []string{"id", "file", "run", "add", "edit", "gone", "move", "head", "branch", "tag", "@", "error 1", "error 4", "error 10", "error 11", "error 13", "error 14", "error 16", "error 20"} {
		if met[what] < 20 {
			t.Errorf("%s: %d times", what, met[what])
		}
	}
}

// P5: what was told is kept: with crashes between its lines a script tells what it tells without them.
func TestCrashes(t *testing.T) {
	for seed := range int64(200) {
		w := writer{rand.New(rand.NewSource(seed))}
		var calm, rough []string
		node := "0"
		for _, line := range w.script() {
			if strings.HasPrefix(line, "crash") {
				continue
			}
			calm, rough = append(calm, line), append(rough, line)
			words := strings.Fields(line)
			if len(words) == 2 && words[0] == "node" && strings.Contains("012", words[1]) && len(words[1]) == 1 {
				node = words[1]
			}
			for range w.Intn(2) * w.Intn(3) {
				fates := "crash"
				for range w.Intn(6) {
					fates += " " + strconv.Itoa(w.Intn(300))
				}
				rough = append(rough, "node "+w.pick("0", "1", "2"), fates, "node "+node)
			}
		}
		if got, want := does(t, rough...), does(t, calm...); !slices.Equal(got, want) {
			t.Fatalf("seed %d: %q; want %q", seed, got, want)
		}
	}
}

// P2: what is committed comes out, byte by byte.
func TestComesOut(t *testing.T) {
	w := writer{rand.New(rand.NewSource(1))}
	for range 200 {
		var lines []string
		for range 1 + w.Intn(5) {
			for range w.Intn(5) {
				lines = append(lines, w.pick("rm "+w.path(), "put "+w.path()+" "+desk.Escape(w.text())))
			}
			lines = append(lines, "commit x")
		}
		lines = append(lines, "put new", "commit last")
		tree := does(t, append(slices.Clone(lines), "# from here on", "tree")...)
		out := does(t, append(slices.Clone(lines), "rm a", "put new old", "put more", "checkout -", "tree")...)
		told := len(does(t, lines...))
		if want := slices.Concat(tree[told:], tree[told:]); !slices.Equal(out[told:], want) {
			t.Fatalf("%q: %q; want %q", lines, out[told:], want)
		}
	}
}

// text is one of any runes.
func (w writer) text() string {
	var l []rune
	for range w.Intn(40) {
		l = append(l, []rune("ab \n\\é\u20ac\U0001f600\x00\t")[w.Intn(10)])
	}
	return string(l)
}

// P3, P4: whichever way two are brought together, files and blame are the same, and so is the id.
func TestEitherWay(t *testing.T) {
	w := writer{rand.New(rand.NewSource(2))}
	for i := range 100 {
		begin := []string{"put a " + desk.Escape(w.text()), "put b " + desk.Escape(w.text()), "commit first", "node 1", "fetch 0 n.", "branch main n.main", "checkout -"}
		for _, node := range w.pick("01", "10", "0101") {
			begin = append(begin, "node "+string(node), "author "+string('A'+node), "put "+w.pick("a", "b", "c")+" x"+strconv.Itoa(i)+desk.Escape(w.text()))
			begin = append(begin, w.pick("mv a d", "rm b", "", ""), "commit more")
		}
		begin = append(begin, "node 0", "fetch 1 z.", "node 1", "fetch 0 z.", "author me")
		end := []string{"stamp 9", "merge z.main both", "checkout -", "blame - a", "blame - b", "blame - c", "blame - d"}
		told := len(does(t, begin...))
		var out [2][]string
		for node := range 2 {
			out[node] = does(t, slices.Concat(begin, []string{"node " + strconv.Itoa(node)}, end)...)[told:]
		}
		if !slices.Equal(out[0], out[1]) || !strings.HasPrefix(out[0][0], "id ") {
			t.Fatalf("%q: %q; %q", begin, out[0], out[1])
		}
	}
}
