package net

import (
	"slices"

	"variorum/api"
	"variorum/repo"
	"variorum/session"
)

// act is what a step of a kind does, and whether it names what is there.
type act struct {
	right func(w *Net, x Step) bool
	do    func(w *Net, x Step) Told
}

// acts tells what a step of each kind does.
func acts() map[uint8]act {
	return map[uint8]act{
		NDo:      {(*Net).namesNode, (*Net).command},
		NFetch:   {(*Net).namesTwo, (*Net).fetch},
		NPush:    {(*Net).namesTwo, (*Net).push},
		NSay:     {(*Net).namesSession, (*Net).say},
		NDeliver: {(*Net).namesFlying, (*Net).deliver},
		NLose:    {(*Net).namesFlying, (*Net).lose},
		NDouble:  {(*Net).namesFlying, (*Net).double},
		NForge:   {(*Net).namesSession, (*Net).forge},
		NCrash:   {(*Net).namesNode, (*Net).crash},
		NTurn:    {(*Net).namesSession, (*Net).turn},
	}
}

// told tells an error, or OK.
func told(e api.Errno) Told { return Told{Answer: api.Answer{Error: e}} }

// among: has a list such a place?
func among[T any](l []T, place int) bool { return 0 <= place && place < len(l) }

// takeOut takes one out of a list.
func takeOut[T any](l *[]T, place int) T {
	one := (*l)[place]
	*l = slices.Delete(*l, place, place+1)
	return one
}

func (w *Net) namesNode(x Step) bool { return among(w.nodes, x.Node) }

func (w *Net) namesSession(x Step) bool { return among(w.talks, x.At) }

func (w *Net) namesFlying(x Step) bool { return among(w.flight, x.At) }

// namesTwo: can there be a session between two nodes?
func (w *Net) namesTwo(x Step) bool {
	return among(w.nodes, x.Node) && among(w.nodes, x.Other) && x.Node != x.Other && len(x.Name) <= api.MaxName
}

// open opens a node's repository, and has a new server. (Where there is an error there is neither: a nil one does nothing.)
func (w *Net) open(n *node) api.Errno {
	r, e := repo.Open(n.disk)
	n.repo, n.server = r, session.Serve(r, w.choices)
	return e
}

func (w *Net) command(x Step) Told {
	return Told{Answer: w.nodes[x.Node].repo.Do(x.Command)}
}

func (w *Net) fetch(x Step) Told {
	return w.begin(&talk{own: x.Node, other: x.Other, name: x.Name})
}

func (w *Net) push(x Step) Told {
	return w.begin(&talk{own: x.Node, other: x.Other, name: x.Name, pushes: true, force: x.Force})
}

// begin begins a session.
func (w *Net) begin(t *talk) Told {
	number := len(w.talks)
	if number == mostSessions {
		return told(api.ErrFull)
	}
	w.talks = append(w.talks, t)
	w.renew(number)
	return Told{N: number}
}

// renew has a session have a client at first.
func (w *Net) renew(number int) {
	t := w.talks[number]
	r := w.nodes[t.own].repo
	if t.pushes {
		t.client = session.Push(r, number, t.name, t.force, w.choices)
		return
	}
	t.client = session.Fetch(r, number, t.name)
}

// count tells how many messages there are.
func (w *Net) count() Told { return Told{N: len(w.flight)} }

// send puts something last into the flight.
func (w *Net) send(f flying) Told {
	if len(w.flight) == mostFlying {
		return told(api.ErrFull)
	}
	w.flight = append(w.flight, f)
	return w.count()
}

func (w *Net) say(x Step) Told {
	b := w.talks[x.At].client.Say()
	if len(b) == 0 { // it is ended
		return w.count()
	}
	return w.send(flying{word: word{x.At, b}})
}

func (w *Net) deliver(x Step) Told {
	f := takeOut(&w.flight, x.At)
	t := w.talks[f.session]
	if f.back {
		t.client.Hear(f.bytes)
		return w.count()
	}
	answer := w.nodes[t.other].server.Hear(f.bytes)
	if len(answer) == 0 {
		return w.count()
	}
	return w.send(flying{word{f.session, answer}, true})
}

func (w *Net) lose(x Step) Told {
	takeOut(&w.flight, x.At)
	return w.count()
}

func (w *Net) double(x Step) Told { return w.send(w.flight[x.At]) }

func (w *Net) forge(x Step) Told {
	return w.send(flying{word{x.At, slices.Clone(x.Bytes)}, x.Force})
}

func (w *Net) crash(x Step) Told {
	n := w.nodes[x.Node]
	n.disk.Crash(x.Fates)
	e := w.open(n)
	for number, t := range w.talks {
		if t.own == x.Node {
			w.renew(number)
		}
	}
	return told(e)
}

func (w *Net) turn(x Step) Told {
	t := w.talks[x.At]
	t.client.Hear(w.nodes[t.other].server.Hear(t.client.Say()))
	if _, ended := t.client.Ended(); ended {
		return Told{N: 1}
	}
	return Told{}
}
