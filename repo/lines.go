package repo

import (
	"slices"
	"strconv"
	"strings"

	"variorum/api"
	"variorum/dag"
	"variorum/leb"
	"variorum/refs"
	"variorum/scan"
)

// What refs are called in lines.
const (
	branchWord = "branch"
	tagWord    = "tag"
	headWord   = "head"
)

// line is parts with a blank between.
func line(parts ...string) string { return strings.Join(parts, " ") }

func (c *call) log(asked api.Command) api.Answer {
	id, _ := c.whole(asked.Name)
	g := dag.New()
	for _, one := range c.past(id) {
		commit := c.object(one).Commit
		e := g.Add(one, commit.Parents, commit.Stamp)
		must(e == api.OK, e) // too many commits
	}
	log, _ := g.Log(id)
	a := api.Answer{Id: id}
	for _, one := range log {
		commit := c.object(one).Commit
		a.Lines = append(a.Lines, line(leb.Hex(one), strconv.Itoa(commit.Stamp), commit.Author, commit.Message))
	}
	return a
}

func (c *call) reflog(api.Command) api.Answer {
	var lines []string
	for _, entry := range slices.Backward(c.refs.Log) {
		lines = append(lines, line(kindWord(entry.Kind), entry.Name, leb.Hex(entry.Old), leb.Hex(entry.New), entry.Note))
	}
	return api.Answer{Lines: lines}
}

// kindWord is what a ref of a kind is called.
func kindWord(kind uint8) string {
	switch kind {
	case api.RBranch:
		return branchWord
	case api.RTag:
		return tagWord
	}
	return headWord
}

func (c *call) tellRefs(api.Command) api.Answer {
	head := c.refs.Head
	if head == "" {
		head = leb.Hex(c.refs.At)
	}
	lines := []string{line(headWord, head)}
	tell := func(word string, l []refs.Named) {
		for _, n := range l {
			lines = append(lines, line(word, n.Name, leb.Hex(n.Id)))
		}
	}
	tell(branchWord, c.refs.Branches)
	tell(tagWord, c.refs.Tags)
	return api.Answer{Lines: lines}
}

// rowLines tells what has become of files.
func rowLines(rows []scan.Row) []string {
	words := [...]string{scan.SAdd: "add", scan.SEdit: "edit", scan.SGone: "gone", scan.SMove: "move"}
	var lines []string
	for _, row := range rows {
		parts := []string{words[row.Kind]}
		if row.Kind == scan.SMove {
			parts = append(parts, row.From)
		}
		lines = append(lines, line(append(parts, row.Path, strconv.Itoa(row.Cost))...))
	}
	return lines
}
