// Package chart: charts of states that live side by side, and a service that many clients share: see DOC.md.
package chart

import (
	"chart/api"
	"chart/motion"
	"chart/outline"
	"chart/service"
	"chart/stand"
)

// Check tells whether a text is a chart (P3).
func Check(text string) (api.Errno, int) {
	o := outline.Read(text)
	return o.Err, o.Fault
}

// Tree tells which states a chart has (P4).
func Tree(text string) ([]api.Node, api.Errno) {
	o := outline.Read(text)
	if o.Err != api.OK {
		return nil, o.Err
	}
	nodes := make([]api.Node, len(o.States))
	for i := 0; i < len(nodes); i++ {
		nodes[i] = nodeOf(o.States[i])
	}
	return nodes, api.OK
}

func nodeOf(s outline.State) api.Node {
	return api.Node{Name: string([]byte{s.Name}), Kind: s.Kind, Parent: s.Parent}
}

// Legal tells whether a state is one of a chart's (P5).
func Legal(text string, s api.State) api.Errno {
	c := read(text, s)
	return c.err
}

// Start tells how a chart begins (P6).
func Start(text string) (api.State, string, api.Errno) {
	o := outline.Read(text)
	if o.Err != api.OK {
		return api.State{}, "", o.Err
	}
	first, out, e := motion.Start(&o)
	if e != api.OK {
		return api.State{}, "", e
	}
	return first.State(&o), out, api.OK
}

// Fire tells how a chart stands behind an event (P7).
func Fire(text string, s api.State, event string) (api.State, string, api.Errno) {
	c := read(text, s)
	if c.err != api.OK {
		return api.State{}, "", c.err
	}
	if len(event) != 1 || !outline.IsEvent(event[0]) {
		return api.State{}, "", api.ErrEvent
	}
	after, out, e := motion.Fire(&c.plan, c.now, event[0])
	if e != api.OK {
		return api.State{}, "", e
	}
	return after.State(&c.plan), out, api.OK
}

// Wait tells how a chart stands behind a tick (P8).
func Wait(text string, s api.State) (api.State, string, api.Errno) {
	c := read(text, s)
	if c.err != api.OK {
		return api.State{}, "", c.err
	}
	after, out := motion.Wait(&c.plan, c.now)
	return after.State(&c.plan), out, api.OK
}

// standing is a chart and how it stands, or the error of Legal.
type standing struct {
	err  api.Errno
	plan outline.Outline
	now  stand.Stand
}

func read(text string, s api.State) standing {
	o := outline.Read(text)
	if o.Err != api.OK {
		return standing{err: o.Err}
	}
	now, ok := stand.Take(&o, s)
	if !ok {
		return standing{err: api.ErrState}
	}
	return standing{plan: o, now: now}
}

// Service is a running chart that several clients share.
type Service struct {
	running service.Service
}

// New makes a service (P9).
func New(text string, clients int) (*Service, api.Errno) {
	running, e := service.New(text, clients)
	if e != api.OK {
		return nil, e
	}
	return &Service{running: running}, api.OK
}

// Ask lays down a client's request (P10).
func (x *Service) Ask(u int, r api.Request) api.Errno {
	return x.running.Ask(u, r)
}

// Step does the next small step of a client's request (P11).
func (x *Service) Step(u int) (api.Reply, bool, api.Errno) {
	return x.running.Step(u)
}

// Versions tells which versions are kept (P9).
func (x *Service) Versions() []int {
	return x.running.Versions()
}
