package desk

import (
	"variorum/api"
	"variorum/net"
)

// deed is what a line does, and the kind of the command, or the step, by which it does that. It reads all of the line ahead of doing anything.
type deed struct {
	kind uint8
	do   func(d *desk, kind uint8, l *line)
}

// deeds tells what a line with each first word does.
func deeds() map[string]deed {
	return map[string]deed{
		"node":     {do: (*desk).mean},
		"author":   {do: (*desk).sign},
		"stamp":    {do: (*desk).date},
		"put":      {do: (*desk).put},
		"rm":       {do: (*desk).remove},
		"mv":       {do: (*desk).move},
		"tree":     {do: (*desk).tree},
		"commit":   {api.CCommit, (*desk).commit},
		"checkout": {api.CCheckout, (*desk).checkout},
		"branch":   {api.CBranch, (*desk).ofTwo},
		"tag":      {api.CTag, (*desk).ofTwo},
		"diff":     {api.CDiff, (*desk).ofTwo},
		"drop":     {api.CDrop, (*desk).ofOne},
		"untag":    {api.CUntag, (*desk).ofOne},
		"switch":   {api.CSwitch, (*desk).ofOne},
		"log":      {api.CLog, (*desk).ofOne},
		"blame":    {api.CBlame, (*desk).blame},
		"reflog":   {api.CReflog, (*desk).ofNone},
		"refs":     {api.CRefs, (*desk).ofNone},
		"gc":       {api.CGc, (*desk).ofNone},
		"status":   {api.CStatus, (*desk).status},
		"merge":    {api.CMerge, (*desk).bring},
		"pick":     {api.CPick, (*desk).bring},
		"repack":   {api.CRepack, (*desk).repack},
		"fetch":    {net.NFetch, (*desk).fetch},
		"push":     {net.NPush, (*desk).push},
		"force":    {net.NPush, (*desk).force},
		"crash":    {net.NCrash, (*desk).crash},
	}
}

// ask has the node that is meant do a command, and tells what that is answered.
func (d *desk) ask(c api.Command) api.Answer {
	a := d.net.Do(net.Step{Kind: net.NDo, Node: d.node, Command: c}).Answer
	d.answer(a)
	return a
}

// record does so with a command that makes a commit.
func (d *desk) record(c api.Command) api.Answer {
	c.Author, c.Stamp = d.author, d.stamp
	d.stamp++
	return d.ask(c)
}

func (d *desk) ofNone(kind uint8, l *line) {
	l.end()
	d.ask(api.Command{Kind: kind})
}

func (d *desk) ofOne(kind uint8, l *line) {
	c := api.Command{Kind: kind, Name: l.name()}
	l.end()
	d.ask(c)
}

func (d *desk) ofTwo(kind uint8, l *line) {
	c := api.Command{Kind: kind, Name: l.name(), Other: l.name()}
	l.end()
	d.ask(c)
}

func (d *desk) blame(kind uint8, l *line) {
	c := api.Command{Kind: kind, Name: l.name(), Other: l.word()}
	l.end()
	d.ask(c)
}

func (d *desk) repack(kind uint8, l *line) {
	d.ask(api.Command{Kind: kind, Choices: l.numbers()})
}

func (d *desk) bring(kind uint8, l *line) {
	d.record(api.Command{Kind: kind, Name: l.name(), Note: l.note()})
}

func (d *desk) commit(kind uint8, l *line) {
	p := d.place()
	a := d.record(api.Command{Kind: kind, Files: p.files, Moves: p.moves, Note: l.note()})
	if a.Error == api.OK {
		p.moves = nil
	}
}

func (d *desk) checkout(kind uint8, l *line) {
	c := api.Command{Kind: kind, Name: l.name()}
	l.end()
	if a := d.ask(c); a.Error == api.OK {
		*d.place() = place{files: a.Files}
	}
}

func (d *desk) status(kind uint8, l *line) {
	l.end()
	d.ask(api.Command{Kind: kind, Files: d.place().files})
}

func (d *desk) mean(_ uint8, l *line) {
	n := l.number()
	l.end()
	must(n < nodes)
	d.node = n
}

func (d *desk) sign(_ uint8, l *line) { d.author = l.note() }

func (d *desk) date(_ uint8, l *line) {
	n := l.number()
	l.end()
	d.stamp = n
}

func (d *desk) put(_ uint8, l *line) {
	path, text := l.word(), l.rest()
	d.place().put(path, text)
}

func (d *desk) remove(_ uint8, l *line) {
	path := l.word()
	l.end()
	d.place().take(path)
}

func (d *desk) move(_ uint8, l *line) {
	from, to := l.word(), l.word()
	l.end()
	d.place().move(from, to)
}

func (d *desk) tree(_ uint8, l *line) {
	l.end()
	d.files(d.place().files)
}

func (d *desk) crash(kind uint8, l *line) {
	d.answer(d.net.Do(net.Step{Kind: kind, Node: d.node, Fates: l.numbers()}).Answer)
}

func (d *desk) fetch(kind uint8, l *line) {
	d.talk(net.Step{Kind: kind, Other: l.number(), Name: l.rest()})
}

func (d *desk) push(kind uint8, l *line) {
	x := net.Step{Kind: kind, Other: l.number(), Name: l.name()}
	l.end()
	d.talk(x)
}

func (d *desk) force(kind uint8, l *line) {
	x := net.Step{Kind: kind, Other: l.number(), Name: l.name(), Force: true}
	l.end()
	d.talk(x)
}

// talk has the node that is meant begin a session, and tells with what that is ended.
func (d *desk) talk(x net.Step) {
	x.Node = d.node
	begun := d.net.Do(x)
	if begun.Answer.Error != api.OK {
		d.answer(begun.Answer)
		return
	}
	turn := net.Step{Kind: net.NTurn, At: begun.N}
	for range mostTurns {
		if d.net.Do(turn).N == 1 {
			break
		}
	}
	a, ended := d.net.Ended(begun.N)
	if !ended {
		a.Error = api.ErrState
	}
	d.answer(a)
}
