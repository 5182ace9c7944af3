package desk_test

import (
	"encoding/hex"
	"maps"
	"regexp"
	"slices"
	"strconv"
	"strings"

	"variorum/api"
	"variorum/net"
)

// form is how a line looks, its parts in brackets, and what it does with these.
type form struct {
	look string
	do   func(p *plain, m []string)
}

// What parts look like. A REST is what stands behind one blank; what has none behind its words is the form's to tell.
const (
	word   = `([^ ]+)`
	number = `(0|[1-9][0-9]*)`
	some   = `((?: 0| [1-9][0-9]*| )*)` // numbers
	rest   = ` ((?:[^\\]|\\n|\\\\)*)`
)

// forms are those of all lines. In what has no REST more blanks may stand than one.
func forms() []form {
	loose := func(look string) string { return ` *` + strings.ReplaceAll(look, " ", ` +`) + ` *` }
	names := func(kind uint8) func(p *plain, m []string) {
		return func(p *plain, m []string) {
			m = append(m, "-", "-")
			p.ask(api.Command{Kind: kind, Name: named(m[0]), Other: named(m[1])})
		}
	}
	signed := func(kind uint8) func(p *plain, m []string) {
		return func(p *plain, m []string) {
			p.ask(api.Command{Kind: kind, Name: named(m[0]), Note: unescaped(m[1]), Author: p.author, Stamp: p.stamp})
			p.stamp++
		}
	}
	push := func(force bool) func(p *plain, m []string) {
		return func(p *plain, m []string) {
			p.session(net.Step{Kind: net.NPush, Other: value(m[0]), Name: named(m[1]), Force: force})
		}
	}
	return []form{
		{` *`, func(*plain, []string) {}},
		{` *#.*`, func(*plain, []string) {}},
		{loose(`node ([012])`), func(p *plain, m []string) { p.node = value(m[0]) }},
		{`author` + rest, func(p *plain, m []string) { p.author = unescaped(m[0]) }},
		{loose(`stamp ` + number), func(p *plain, m []string) { p.stamp = value(m[0]) }},
		{`put ` + word + `(?:` + rest + `)?`, func(p *plain, m []string) { p.trees[p.node][m[0]] = unescaped(m[1]) }},
		{loose(`rm ` + word), func(p *plain, m []string) { delete(p.trees[p.node], m[0]) }},
		{loose(`mv ` + word + ` ` + word), (*plain).move},
		{`commit` + rest, (*plain).commit},
		{loose(`checkout ` + word), (*plain).checkout},
		{loose(`branch ` + word + ` ` + word), names(api.CBranch)},
		{loose(`tag ` + word + ` ` + word), names(api.CTag)},
		{loose(`drop ` + word), names(api.CDrop)},
		{loose(`untag ` + word), names(api.CUntag)},
		{loose(`switch ` + word), names(api.CSwitch)},
		{loose(`log ` + word), names(api.CLog)},
		{loose(`blame ` + word + ` ` + word), func(p *plain, m []string) {
			p.ask(api.Command{Kind: api.CBlame, Name: named(m[0]), Other: m[1]})
		}},
		{loose(`diff ` + word + ` ` + word), names(api.CDiff)},
		{loose(`reflog`), names(api.CReflog)},
		{loose(`refs`), names(api.CRefs)},
		{loose(`gc`), names(api.CGc)},
		{loose(`status`), func(p *plain, m []string) { p.ask(api.Command{Kind: api.CStatus, Files: p.files()}) }},
		{`merge ` + word + rest, signed(api.CMerge)},
		{`pick ` + word + rest, signed(api.CPick)},
		{` *repack` + some, func(p *plain, m []string) { p.ask(api.Command{Kind: api.CRepack, Choices: values(m[0])}) }},
		{loose(`tree`), func(p *plain, m []string) { p.tell(api.Answer{Files: p.files()}) }},
		{`fetch ` + number + `(?:` + rest + `)?`, func(p *plain, m []string) {
			p.session(net.Step{Kind: net.NFetch, Other: value(m[0]), Name: unescaped(m[1])})
		}},
		{loose(`push ` + number + ` ` + word), push(false)},
		{loose(`force ` + number + ` ` + word), push(true)},
		{` *crash` + some, func(p *plain, m []string) {
			p.tell(p.net.Do(net.Step{Kind: net.NCrash, Node: p.node, Fates: values(m[0])}).Answer)
		}},
	}
}

// wordless are the forms' words whose REST must have a word, and how many words stand ahead of that.
var wordless = map[string]int{"author": 1, "commit": 1, "merge": 2, "pick": 2}

// plain is a desk that holds each line against all forms.
type plain struct {
	net    *net.Net
	trees  [3]map[string]string
	moves  [3][][2]string
	node   int
	author string
	stamp  int
	out    []string
	turns  []int // of each session
}

// run does a script, line by line.
func run(script string) *plain {
	p := &plain{net: net.New(3, nil), author: "me", stamp: 1}
	for i := range p.trees {
		p.trees[i] = map[string]string{}
	}
	looks := forms()
	var all []*regexp.Regexp
	for _, f := range looks {
		all = append(all, regexp.MustCompile(`(?s)\A`+f.look+`\z`))
	}
	for _, line := range strings.Split(script, "\n") {
		p.line(line, looks, all)
	}
	return p
}

func (p *plain) line(line string, looks []form, all []*regexp.Regexp) {
	for i, look := range all {
		m := look.FindStringSubmatch(line)
		if m == nil {
			continue
		}
		if p.wrong(line) {
			break
		}
		looks[i].do(p, m[1:])
		return
	}
	p.out = append(p.out, "error 20")
}

// wrong: is a line wrong that looks right? A number is too great, or a REST has no word.
func (p *plain) wrong(line string) bool {
	words := strings.Fields(strings.ReplaceAll(line, "\t", "t")) // where a tab is a word's
	if len(words) == 0 || words[0][0] == '#' {
		return false
	}
	if n := wordless[words[0]]; n > 0 {
		return len(words) == n
	}
	numbers := map[string]int{"stamp": 2, "fetch": 2, "push": 2, "force": 2, "repack": len(words), "crash": len(words)}[words[0]]
	for i := 1; i < numbers; i++ {
		if n, err := strconv.ParseInt(words[i], 10, 64); err != nil || n > 1<<31-1 {
			return true
		}
	}
	return false
}

func named(word string) string {
	if word == "-" {
		return ""
	}
	return word
}

func value(digits string) int { n, _ := strconv.Atoi(digits); return n }

func values(numbers string) (l []int) {
	for _, digits := range strings.Fields(numbers) {
		l = append(l, value(digits))
	}
	return l
}

func unescaped(s string) string { return strings.NewReplacer(`\\`, `\`, `\n`, "\n").Replace(s) }

func escaped(s string) string { return strings.NewReplacer(`\`, `\\`, "\n", `\n`).Replace(s) }

// files are those of the tree.
func (p *plain) files() (l []api.File) {
	tree := p.trees[p.node]
	for _, path := range slices.Sorted(maps.Keys(tree)) {
		l = append(l, api.File{Path: path, Bytes: tree[path]})
	}
	return l
}

// tell tells an answer.
func (p *plain) tell(a api.Answer) {
	switch {
	case a.Error != api.OK:
		p.out = append(p.out, "error "+strconv.Itoa(int(a.Error)))
		return
	case len(a.Lines) == 0 && len(a.Files) == 0 && len(a.Runs) == 0 && a.Id != api.Id{}:
		p.out = append(p.out, "id "+hex.EncodeToString(a.Id[:]))
	}
	for _, line := range a.Lines {
		p.out = append(p.out, escaped(line))
	}
	for _, f := range a.Files {
		p.out = append(p.out, "file "+f.Path+" "+escaped(f.Bytes))
	}
	for _, r := range a.Runs {
		p.out = append(p.out, "run "+hex.EncodeToString(r.Change[:4])+" "+r.Author+" "+escaped(r.Text))
	}
}

func (p *plain) ask(c api.Command) api.Errno {
	a := p.net.Do(net.Step{Kind: net.NDo, Node: p.node, Command: c}).Answer
	p.tell(a)
	return a.Error
}

func (p *plain) move(m []string) {
	tree := p.trees[p.node]
	if text, ok := tree[m[0]]; ok {
		delete(tree, m[0])
		tree[m[1]] = text
	}
	p.moves[p.node] = append(p.moves[p.node], [2]string{m[0], m[1]})
}

func (p *plain) commit(m []string) {
	if p.ask(api.Command{Kind: api.CCommit, Files: p.files(), Moves: p.moves[p.node], Author: p.author, Note: unescaped(m[0]), Stamp: p.stamp}) == api.OK {
		p.moves[p.node] = nil
	}
	p.stamp++
}

func (p *plain) checkout(m []string) {
	a := p.net.Do(net.Step{Kind: net.NDo, Node: p.node, Command: api.Command{Kind: api.CCheckout, Name: named(m[0])}}).Answer
	p.tell(a)
	if a.Error != api.OK {
		return
	}
	p.trees[p.node], p.moves[p.node] = map[string]string{}, nil
	for _, f := range a.Files {
		p.trees[p.node][f.Path] = f.Bytes
	}
}

// session does one, and notes how many turns it takes, or would.
func (p *plain) session(x net.Step) {
	x.Node = p.node
	told := p.net.Do(x)
	if told.Answer.Error != api.OK {
		p.tell(told.Answer)
		return
	}
	for n := 1; n <= 400; n++ {
		if p.net.Do(net.Step{Kind: net.NTurn, At: told.N}).N == 1 {
			p.turns = append(p.turns, n)
			a, _ := p.net.Ended(told.N)
			p.tell(a)
			return
		}
	}
	p.turns = append(p.turns, 401)
	p.tell(api.Answer{Error: api.ErrState})
}
