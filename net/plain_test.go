package net_test

import (
	"slices"

	"variorum/api"
	"variorum/disk"
	"variorum/net"
	"variorum/repo"
	"variorum/session"
)

// plain is a net that does each step as the chapter's table tells it.
type plain struct {
	disks   []*disk.Disk
	repos   []*repo.Repo
	servers []*session.Server
	begun   []net.Step // the sessions
	clients []*session.Client
	flight  []message
	choices []int
}

// message is one on its way.
type message struct {
	session int
	back    bool
	b       []byte
}

func newPlain(nodes int, choices []int) *plain {
	p := &plain{choices: choices}
	for range nodes {
		d := disk.New(1 << 24)
		r, _ := repo.Open(d)
		p.disks, p.repos = append(p.disks, d), append(p.repos, r)
		p.servers = append(p.servers, session.Serve(r, choices))
	}
	return p
}

// client is a new one, of a session.
func (p *plain) client(number int) *session.Client {
	x := p.begun[number]
	if x.Kind == net.NFetch {
		return session.Fetch(p.repos[x.Node], number, x.Name)
	}
	return session.Push(p.repos[x.Node], number, x.Name, x.Force, p.choices)
}

// error is the one that a step has ahead of all that is done.
func (p *plain) error(x net.Step) api.Errno {
	node := func(n int) bool { return n >= 0 && n < len(p.repos) }
	var right, full bool
	switch x.Kind {
	case net.NDo, net.NCrash:
		right = node(x.Node)
	case net.NFetch, net.NPush:
		right = node(x.Node) && node(x.Other) && x.Node != x.Other && len(x.Name) < 33
		full = len(p.begun) > 63
	case net.NTurn:
		right = x.At >= 0 && x.At < len(p.begun)
	case net.NSay, net.NForge:
		right = x.At >= 0 && x.At < len(p.begun)
		full = len(p.flight) > 255 && (x.Kind == net.NForge || right && p.clients[x.At].Say() != nil)
	case net.NDeliver, net.NLose:
		right = x.At >= 0 && x.At < len(p.flight)
	case net.NDouble:
		right = x.At >= 0 && x.At < len(p.flight)
		full = len(p.flight) > 255
	}
	switch {
	case !right:
		return api.ErrArg
	case full:
		return api.ErrFull
	}
	return api.OK
}

func (p *plain) do(x net.Step) (told net.Told) {
	if told.Answer.Error = p.error(x); told.Answer.Error != api.OK {
		return told
	}
	switch x.Kind {
	case net.NDo:
		told.Answer = p.repos[x.Node].Do(x.Command)
	case net.NFetch, net.NPush:
		told.N = len(p.begun)
		p.begun = append(p.begun, x)
		p.clients = append(p.clients, p.client(told.N))
	case net.NCrash:
		p.disks[x.Node].Crash(x.Fates)
		p.repos[x.Node], told.Answer.Error = repo.Open(p.disks[x.Node])
		p.servers[x.Node] = session.Serve(p.repos[x.Node], p.choices)
		for number, begun := range p.begun {
			if begun.Node == x.Node {
				p.clients[number] = p.client(number)
			}
		}
	case net.NTurn:
		a := p.servers[p.begun[x.At].Other].Hear(p.clients[x.At].Say())
		p.clients[x.At].Hear(a)
		if _, over := p.clients[x.At].Ended(); over {
			told.N = 1
		}
	default:
		p.fly(x)
		told.N = len(p.flight)
	}
	return told
}

// fly does a step that has to do with the flight.
func (p *plain) fly(x net.Step) {
	var m message
	if x.Kind != net.NSay && x.Kind != net.NForge {
		m = p.flight[x.At]
	}
	switch x.Kind {
	case net.NSay:
		if b := p.clients[x.At].Say(); b != nil {
			p.flight = append(p.flight, message{x.At, false, b})
		}
	case net.NForge:
		p.flight = append(p.flight, message{x.At, x.Force, x.Bytes})
	case net.NDouble:
		p.flight = append(p.flight, m)
	case net.NLose:
		p.flight = slices.Delete(p.flight, x.At, x.At+1)
	case net.NDeliver:
		p.flight = slices.Delete(p.flight, x.At, x.At+1)
		if m.back {
			p.clients[m.session].Hear(m.b)
		} else if b := p.servers[p.begun[m.session].Other].Hear(m.b); b != nil {
			p.flight = append(p.flight, message{m.session, true, b})
		}
	}
}
