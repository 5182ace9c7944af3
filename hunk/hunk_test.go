package hunk_test

import (
	"math"
	"math/rand"
	"reflect"
	"slices"
	"strconv"
	"strings"
	"testing"

	"variorum/api"
	"variorum/hunk"
	"variorum/myers"
)

// at is a hunk with some lines.
func at(from, to int, lines ...string) hunk.Hunk {
	return hunk.Hunk{From: from, To: to, Lines: lines}
}

// same: are two lists of hunks one, empty lists being the same as none?
func same(a, b []hunk.Hunk) bool {
	return slices.EqualFunc(a, b, func(a, b hunk.Hunk) bool {
		return a.From == b.From && a.To == b.To && slices.Equal(a.Lines, b.Lines)
	})
}

// are fails, unless these are the hunks between two texts, and lead from the one to the other.
func are(t *testing.T, a, b string, want ...hunk.Hunk) {
	t.Helper()
	got, e := hunk.Hunks(a, b)
	if e != api.OK || !same(got, want) {
		t.Fatalf("%.80q to %.80q: %.300v, error %d; want %.300v", a, b, got, e, want)
	}
	applied(t, a, got, b, api.OK)
}

// applied fails, unless hunks upon a text come to that.
func applied(t *testing.T, a string, l []hunk.Hunk, want string, e api.Errno) {
	t.Helper()
	if got, f := hunk.Apply(a, l); got != want || f != e {
		t.Errorf("%.80q with %.300v: %.80q, error %d; want %.80q, %d", a, l, got, f, want, e)
	}
}

// told fails, unless these lines tell what is unlike between files.
func told(t *testing.T, a, b []api.File, want ...string) {
	t.Helper()
	if got, e := hunk.Lines(a, b); e != api.OK || !slices.Equal(got, want) {
		t.Errorf("%.80q to %.80q: %.300q, error %d; want %.300q", a, b, got, e, want)
	}
}

// files is paths and texts in turn.
func files(l ...string) []api.File {
	var files []api.File
	for ; len(l) > 0; l = l[2:] {
		files = append(files, api.File{Path: l[0], Bytes: l[1]})
	}
	return files
}

// lines is a text of lines with these letters.
func lines(letters string) string {
	s := ""
	for _, r := range letters {
		s += string(r) + "\n"
	}
	return s
}

// The examples of the chapter.
func TestExamples(t *testing.T) {
	are(t, "a\nb\n", "a\nc\n", at(0, 0, " a\n", "-b\n", "+c\n"))
	told(t, nil, files("x", "hi"), "file x added", "@ 0 0", `+hi\`)
}

// P23.1: where lines end.
func TestSplit(t *testing.T) {
	for s, want := range map[string][]string{
		"":             nil,
		"\n":           {"\n"},
		"a":            {"a"},
		"a\n":          {"a\n"},
		"a\nb":         {"a\n", "b"},
		"a\n\n":        {"a\n", "\n"},
		"\n\na":        {"\n", "\n", "a"},
		"a\r\nb\rc\n":  {"a\r\n", "b\rc\n"},
		"\xff\n\xfe":   {"\xff\n", "\xfe"},
		"\u2028\x0b\n": {"\u2028\x0b\n"},
	} {
		if got := hunk.Split(s); !slices.Equal(got, want) {
			t.Errorf("%q: %q", s, got)
		}
	}
	l := hunk.Split("a\nb\n")
	clear(append(l, "x"))
	clear(l)
	if got := hunk.Split("a\nb\n"); !slices.Equal(got, []string{"a\n", "b\n"}) {
		t.Errorf("%q", got)
	}
}

// P23.1: how many lines that are kept stand around, and which hunks are one.
func TestHunks(t *testing.T) {
	are(t, "", "")
	are(t, "a\n", "a\n")
	are(t, lines("abcdefgh"), lines("abcdefgh"))
	are(t, "", "a", at(0, 0, "+a"))
	are(t, "a", "", at(0, 0, "-a"))
	are(t, "", lines("ab"), at(0, 0, "+a\n", "+b\n"))
	are(t, "a", "a\n", at(0, 0, "-a", "+a\n"))
	are(t, lines("a")+"b", lines("ab"), at(0, 0, " a\n", "-b", "+b\n"))
	are(t, lines("abcdefgh"), lines("abcdXfgh"), at(1, 1, " b\n", " c\n", " d\n", "-e\n", "+X\n", " f\n", " g\n", " h\n"))
	are(t, lines("abcdefghi"), lines("Xabcdefghi"), at(0, 0, "+X\n", " a\n", " b\n", " c\n"))
	are(t, lines("abcdefghi"), lines("abcdefghiX"), at(6, 6, " g\n", " h\n", " i\n", "+X\n"))
	are(t, lines("abcdefghi"), lines("bcdefghi"), at(0, 0, "-a\n", " b\n", " c\n", " d\n"))
	are(t, lines("Xabcdef"), lines("abcdefY"), at(0, 0, "-X\n", " a\n", " b\n", " c\n", " d\n", " e\n", " f\n", "+Y\n")) // they touch
	are(t, lines("Xabcde"), lines("abcdeY"), at(0, 0, "-X\n", " a\n", " b\n", " c\n", " d\n", " e\n", "+Y\n"))           // they overlap
	are(t, lines("Xabcdefg"), lines("abcdefgY"), at(0, 0, "-X\n", " a\n", " b\n", " c\n"), at(5, 4, " e\n", " f\n", " g\n", "+Y\n"))
	are(t, lines("abcdefghijklmnop"), lines("aBcdefghijklmnXYp"),
		at(0, 0, " a\n", "-b\n", "+B\n", " c\n", " d\n", " e\n"), at(11, 11, " l\n", " m\n", " n\n", "-o\n", "+X\n", "+Y\n", " p\n"))
	are(t, lines("aab"), lines("ab"), at(0, 0, " a\n", "-a\n", " b\n")) // layer 16's script
	are(t, lines("1")+"\n\n\n", lines("2")+"\n\n\n", at(0, 0, "-1\n", "+2\n", " \n", " \n", " \n"))
}

// P23.1: no texts, and too many lines; no text first.
func TestHunksErrors(t *testing.T) {
	most := strings.Repeat("\n", api.MaxFile)
	for _, c := range []struct {
		a, b string
		e    api.Errno
	}{
		{"\xff", "", api.ErrText},
		{"", "a\n\xff", api.ErrText},
		{"\xff", "\xff", api.ErrText},
		{most + "a", "\xff", api.ErrText},
		{"\xed\xa0\x80", most + "a", api.ErrText},
		{most + "a", "", api.ErrLong},
		{"", most + "\n", api.ErrLong},
		{most + "a", most + "a", api.ErrLong},
	} {
		if l, e := hunk.Hunks(c.a, c.b); len(l) > 0 || e != c.e {
			t.Errorf("%.9q to %.9q: %.80v, error %d", c.a, c.b, l, e)
		}
	}
	are(t, most, most)
	are(t, most[1:]+"a", most, at(api.MaxFile-4, api.MaxFile-4, " \n", " \n", " \n", "-a", "+\n"))
	great := strings.Repeat("a", 1<<20) // many bytes, but one line
	are(t, great, great+"\n", at(0, 0, "-"+great, "+"+great+"\n"))
}

// P23.2: what hunks come to, those that Hunks would not tell, too.
func TestApply(t *testing.T) {
	applied(t, "", nil, "", api.OK)
	applied(t, "a\nb", nil, "a\nb", api.OK)
	applied(t, "a\nb", []hunk.Hunk{{}, {}}, "a\nb", api.OK)
	applied(t, "a\nb", []hunk.Hunk{at(2, 0), at(2, 0, "+c", "+", "+d\ne\n")}, "a\nbcd\ne\n", api.OK)
	applied(t, lines("abcde"), []hunk.Hunk{at(1, 99, "-b\n"), at(2, -5, " c\n", "+X"), at(3, 0, "-d\n", " e\n")}, lines("a")+lines("c")+"X"+lines("e"), api.OK) // To does not count
	applied(t, lines("abc"), []hunk.Hunk{at(0, 0, "+1"), at(0, 0, "+2"), at(0, 0, "-a\n"), at(1, 0, "+3"), at(3, 0, "+4")}, "123b\nc\n4", api.OK)
	applied(t, "\xff\n\xfe", []hunk.Hunk{at(0, 0, "-\xff\n", "+\xfd", " \xfe")}, "\xfd\xfe", api.OK) // no text is asked for
	long := strings.Repeat("a\n", 3*api.MaxFile)
	applied(t, long, []hunk.Hunk{at(2*api.MaxFile, 0, "-a\n")}, long[2:], api.OK)
}

// P23.2: where a hunk may not begin, and lines that may not be; whatever stands first counts.
func TestApplyErrors(t *testing.T) {
	abc := lines("abc")
	for _, l := range [][]hunk.Hunk{
		{at(-1, 0)}, {at(math.MinInt, 0)}, {at(4, 0)}, {at(math.MaxInt, 0)},
		{at(1, 1, " b\n"), at(1, 1)}, {at(1, 1, "-b\n"), at(0, 0)}, {at(2, 2), at(1, 1)}, {at(1, 0, " b\n", "-c\n"), at(2, 0)},
		{at(0, 0, "+x\n", "+y\n", "+z\n", "+0\n"), at(4, 4)}, // of the lines of a, not of the text
		{at(4, 0, "?")}, {at(2, 0, "-c\n"), at(2, 0, "x")},
	} {
		applied(t, abc, l, "", api.ErrArg)
	}
	for _, line := range []string{"", "a\n", "*a\n", "\n", "\xc3 a\n", "a", " b\n", "-b\n", " a", "-a", " ", "-", " a\nb\n", "- a\n", "  a\n", " a\n\n"} {
		applied(t, abc, []hunk.Hunk{at(0, 0, line)}, "", api.ErrForm)
		applied(t, abc, []hunk.Hunk{at(0, 0, " a\n", "-b\n", " c\n", line)}, "", api.ErrForm)
		applied(t, "", []hunk.Hunk{at(0, 0, line)}, "", api.ErrForm)
		applied(t, abc, []hunk.Hunk{at(0, 0, line), at(9, 0)}, "", api.ErrForm)
	}
	applied(t, "a", []hunk.Hunk{at(0, 0, " a\n")}, "", api.ErrForm)
	applied(t, "a\n", []hunk.Hunk{at(1, 0, " ")}, "", api.ErrForm)
}

// P23.3: which files are told, in which order, and how.
func TestLines(t *testing.T) {
	told(t, nil, nil)
	told(t, files("a", "x", "b", ""), files("b", "", "a", "x"))
	told(t, files("b", "x\ny\n", "a", "1\n2", "c", ""), files("e", "\n\\", "d", "", "a", "1\n3\n"),
		"file a", "@ 0 0", " 1", `-2\`, "+3",
		"file b gone", "@ 0 0", "-x", "-y",
		"file c gone",
		"file d added",
		"file e added", "@ 0 0", "+", `+\\`)
	told(t, files("a", "x", "a", "y"), files("a", "y", "a", "x"), "file a", "@ 0 0", `-x\`, `+y\`) // the first of each
	told(t, files("a", "x", "a", "y"), files("a", "x", "a", "z"))
	told(t, files("a", lines("abcdefghijkl")), files("a", lines("abcdefghijkL")), "file a", "@ 8 8", " i", " j", " k", "-l", "+L")
	told(t, files("b", "", "a/b", "", "a", "", "a-b", ""), nil, "file a gone", "file a-b gone", "file a/b gone", "file b gone")
	told(t, files("", "x", "\xff", ""), files("\n", ""), "file  gone", "@ 0 0", `-x\`, "file \n added", "file \xff gone") // any paths
}

// P23.3: the error of the first path that has one; what is the same has none.
func TestLinesErrors(t *testing.T) {
	long := strings.Repeat("\n", api.MaxFile+1)
	for _, c := range []struct {
		a, b []api.File
		e    api.Errno
	}{
		{files("a", "\xff"), nil, api.ErrText},
		{nil, files("a", "\xff"), api.ErrText},
		{files("a", long), files("a", ""), api.ErrLong},
		{files("b", "\xff", "a", long), nil, api.ErrLong},
		{files("a", "\xff"), files("b", long), api.ErrText},
		{files("b", "\xff", "c", "x"), files("b", "", "a", "x"), api.ErrText},
		{files("a", long, "b", "\xff"), files("a", long), api.ErrText},
	} {
		if l, e := hunk.Lines(c.a, c.b); len(l) > 0 || e != c.e {
			t.Errorf("%.40q to %.40q: %.80q, error %d; want %d", c.a, c.b, l, e, c.e)
		}
	}
	told(t, files("a", "\xff", "b", long), files("a", "\xff", "b", long))
}

// plain is the hunks that moves make of two texts' lines: rows as the chapter tells them, then those that meet made one.
func plain(moves []uint8, a, b []string) []hunk.Hunk {
	var rows [][2]int // from, to (the move behind)
	for i := 0; i < len(moves); i++ {
		if moves[i] == myers.MKeep {
			continue
		}
		end := i
		for end < len(moves) && moves[end] != myers.MKeep {
			end++
		}
		rows = append(rows, [2]int{max(i-3, 0), min(end+3, len(moves))})
		i = end
	}
	for i := 0; i+1 < len(rows); {
		if rows[i+1][0] > rows[i][1] {
			i++
			continue
		}
		rows[i][1] = rows[i+1][1]
		rows = slices.Delete(rows, i+1, i+2)
	}
	var l []hunk.Hunk
	for _, row := range rows {
		h := hunk.Hunk{}
		i, j := 0, 0
		for at, move := range moves[:row[1]] {
			line := ""
			if at == row[0] {
				h.From, h.To = i, j
			}
			switch move {
			case myers.MKeep:
				line = " " + a[i]
				i, j = i+1, j+1
			case myers.MDrop:
				line = "-" + a[i]
				i++
			case myers.MAdd:
				line = "+" + b[j]
				j++
			}
			if at >= row[0] {
				h.Lines = append(h.Lines, line)
			}
		}
		l = append(l, h)
	}
	return l
}

// random is a text of some lines of few kinds, which may have no byte 10 at its end.
func random(r *rand.Rand, n, k int) string {
	s := ""
	for range r.Intn(n + 1) {
		s += string(rune('a'+r.Intn(k))) + "\n"
	}
	if r.Intn(3) == 0 && s != "" {
		return s[:len(s)-1]
	}
	return s
}

// edited is a text whose lines were changed here and there.
func edited(r *rand.Rand, s string, edits, k int) string {
	l := hunk.Split(s)
	for range edits {
		i := r.Intn(len(l) + 1)
		if r.Intn(2) == 0 && i < len(l) {
			l = slices.Delete(l, i, i+1)
		} else {
			l = slices.Insert(l, i, string(rune('a'+r.Intn(k)))+"\n")
		}
	}
	return strings.Join(l, "")
}

// P23.1, P23.2, P23.4: random texts, as the chapter tells it.
func TestPlain(t *testing.T) {
	r := rand.New(rand.NewSource(1))
	for i := range 4000 {
		k := 1 + r.Intn(26)
		a := random(r, 1+i%50, k)
		b := random(r, 1+i%50, k)
		if i%4 > 0 {
			b = edited(r, a, r.Intn(6), k)
		}
		one, other := hunk.Split(a), hunk.Split(b)
		number := func(lines []string) (l []rune) {
			for _, line := range lines {
				l = append(l, rune(line[0])<<8+rune(len(line)))
			}
			return l
		}
		moves, _ := myers.Moves(number(one), number(other))
		are(t, a, b, plain(moves, one, other)...)
		if got, _ := hunk.Hunks(a, b); len(got) == 0 && a != b {
			t.Fatalf("%q, %q", a, b)
		}
	}
}

// plainApply is Apply, put down as the chapter tells it.
func plainApply(a string, l []hunk.Hunk) (string, api.Errno) {
	lines := hunk.Split(a)
	next, text := 0, ""
	for _, h := range l {
		if h.From < next || h.From > len(lines) {
			return "", api.ErrArg
		}
		text += strings.Join(lines[next:h.From], "")
		next = h.From
		for _, line := range h.Lines {
			switch {
			case strings.HasPrefix(line, "+"):
				text += line[1:]
			case next < len(lines) && line == " "+lines[next]:
				text += lines[next]
				next++
			case next < len(lines) && line == "-"+lines[next]:
				next++
			default:
				return "", api.ErrForm
			}
		}
	}
	return text + strings.Join(lines[next:], ""), api.OK
}

// P23.2: hunks that were spoilt, or come upon another text.
func TestPlainApply(t *testing.T) {
	r := rand.New(rand.NewSource(2))
	met := map[api.Errno]int{}
	for range 20000 {
		k := 1 + r.Intn(5)
		a := random(r, 40, k)
		l, _ := hunk.Hunks(a, edited(r, a, r.Intn(8), k))
		if len(l) > 0 {
			h := &l[r.Intn(len(l))]
			switch r.Intn(6) {
			case 0:
				h.From += r.Intn(9) - 4
			case 1:
				i := r.Intn(len(h.Lines))
				h.Lines[i] = string(" -+?"[r.Intn(4)]) + h.Lines[i][1:]
			case 2:
				i := r.Intn(len(h.Lines))
				h.Lines = slices.Delete(h.Lines, i, i+1)
			case 3:
				l = append(l, l[r.Intn(len(l))])
			case 4:
				a = edited(r, a, 1, k)
			}
		}
		want, e := plainApply(a, l)
		applied(t, a, l, want, e)
		met[e]++
	}
	for _, e := range []api.Errno{api.OK, api.ErrArg, api.ErrForm} {
		if met[e] < 500 {
			t.Errorf("error %d: %d times", e, met[e])
		}
	}
}

// P23.3: random files, each told by its hunks.
func TestPlainLines(t *testing.T) {
	r := rand.New(rand.NewSource(3))
	for range 1000 {
		var one, other []api.File
		var want []string
		for i := range 12 {
			path := string(rune('a' + i))
			a := random(r, 20, 3)
			b := edited(r, a, r.Intn(3), 3)
			mark := ""
			switch r.Intn(4) {
			case 0:
				a, mark = "", " added"
			case 1:
				b, mark = "", " gone"
			}
			if mark != " added" {
				one = append(one, api.File{Path: path, Bytes: a})
			}
			if mark != " gone" {
				other = append(other, api.File{Path: path, Bytes: b})
			}
			if a == b && mark == "" {
				continue
			}
			want = append(want, "file "+path+mark)
			l, _ := hunk.Hunks(a, b)
			for _, h := range l {
				want = append(want, "@ "+strconv.Itoa(h.From)+" "+strconv.Itoa(h.To))
				for _, line := range h.Lines {
					if !strings.HasSuffix(line, "\n") {
						line += "\\\n"
					}
					want = append(want, line[:len(line)-1])
				}
			}
		}
		shuffle := func(l []api.File) { r.Shuffle(len(l), func(i, k int) { l[i], l[k] = l[k], l[i] }) }
		shuffle(one)
		shuffle(other)
		told(t, one, other, want...)
	}
}

// R4: what is handed in is not changed, the room behind it neither; what is handed out is new.
func TestMemory(t *testing.T) {
	room := []hunk.Hunk{at(1, 1, "-b\n", "+c\n"), at(7, 7, "x")}
	all := []string{"-b\n", "+c\n", "room"}
	room[0].Lines = all[:2]
	applied(t, lines("ab"), room[:1], lines("ac"), api.OK)
	if !reflect.DeepEqual(room, []hunk.Hunk{at(1, 1, "-b\n", "+c\n"), at(7, 7, "x")}) || all[2] != "room" {
		t.Errorf("%v, %q", room, all)
	}
	l := files("b", "x", "a", "y", "c", "")
	told(t, l[:2], nil, "file a gone", "@ 0 0", `-y\`, "file b gone", "@ 0 0", `-x\`)
	if !slices.Equal(l, files("b", "x", "a", "y", "c", "")) {
		t.Errorf("%q", l)
	}
	got, _ := hunk.Hunks(lines("Xabcdefg"), lines("abcdefgY"))
	clear(append(got[0].Lines, "more")) // of the one beside
	if got[1].Lines[0] != " e\n" {
		t.Errorf("%v", got[1])
	}
	clear(got)
	are(t, lines("Xabcdefg"), lines("abcdefgY"), at(0, 0, "-X\n", " a\n", " b\n", " c\n"), at(5, 4, " e\n", " f\n", " g\n", "+Y\n"))
}
