package desk

import (
	"strconv"
	"strings"

	"variorum/api"
)

const mostNumber = 1<<31 - 1

// line is one of a script, read word by word.
type line struct {
	text  string
	words []string
	next  int // of the words
}

// read reads a line's words.
func read(text string) *line {
	blank := func(r rune) bool { return r == ' ' }
	return &line{text: text, words: strings.FieldsFunc(text, blank)}
}

// must gives up where a line is wrong.
func must(right bool) {
	if !right {
		panic(api.ErrLine)
	}
}

// word is the next word.
func (l *line) word() string {
	must(l.next < len(l.words))
	l.next++
	return l.words[l.next-1]
}

// name is a NAME.
func (l *line) name() string {
	if word := l.word(); word != "-" {
		return word
	}
	return ""
}

// number is a NUM. There is but one way to write it.
func (l *line) number() int {
	word := l.word()
	n, err := strconv.Atoi(word)
	must(err == nil && strconv.Itoa(n) == word && 0 <= n && n <= mostNumber)
	return n
}

// numbers are all that are left, each a NUM.
func (l *line) numbers() []int {
	var all []int
	for l.next < len(l.words) {
		all = append(all, l.number())
	}
	return all
}

// rest is the REST behind the words that were read, which may be blanks alone, or nothing.
func (l *line) rest() string {
	ahead := strings.Join(l.words[:l.next], " ")
	if l.text == ahead {
		return ""
	}
	escaped, ok := strings.CutPrefix(l.text, ahead+" ")
	must(ok)
	text, ok := Unescape(escaped)
	must(ok)
	return text
}

// note is a REST that has a word.
func (l *line) note() string {
	must(l.next < len(l.words))
	return l.rest()
}

// end gives up where there are more words.
func (l *line) end() { must(l.next == len(l.words)) }
