// Package service keeps one running chart for several clients, whose requests are
// done in small steps.
package service

import (
	"chart/api"
	"chart/motion"
	"chart/outline"
	"chart/stand"
)

// Service is a running chart: what is kept of how it stood and of what it put out,
// and what its clients ask for.
type Service struct {
	plan     outline.Outline
	versions shelf
	log      journal
	tasks    []task // one for each client
	tickets  int    // how many were drawn
	turn     int    // the lowest number whose request is not done
}

// New makes a service, or tells why there is none.
func New(text string, clients int) (Service, api.Errno) {
	plan := outline.Read(text)
	if plan.Err != api.OK {
		return Service{}, plan.Err
	}
	if clients < 1 || clients > api.MaxClients {
		return Service{}, api.ErrClient
	}
	first, out, e := motion.Start(&plan)
	if e != api.OK {
		return Service{}, e
	}
	x := Service{plan: plan, tasks: make([]task, clients)}
	x.publish(first, out)
	return x, api.OK
}

// publish makes the next version, and lets all see what was put out on the way to it.
func (x *Service) publish(now stand.Stand, out string) {
	x.versions.add(now)
	x.log.join(out)
}

// Versions tells the numbers of the versions that are kept, rising.
func (x *Service) Versions() []int {
	return x.versions.numbers()
}

func (x *Service) isClient(u int) bool {
	return u >= 0 && u < len(x.tasks)
}

// Ask lays down a client's request.
func (x *Service) Ask(u int, r api.Request) api.Errno {
	if !x.isClient(u) {
		return api.ErrClient
	}
	if x.tasks[u].kind != nothing {
		return api.ErrBusy
	}
	if !isRequest(r) {
		return api.ErrRequest
	}
	x.tasks[u] = newTask(r)
	return api.OK
}

// Step does the next small step of a client's request. With its last one it answers
// true and the reply.
func (x *Service) Step(u int) (api.Reply, bool, api.Errno) {
	if !x.isClient(u) {
		return api.Reply{}, false, api.ErrClient
	}
	t := &x.tasks[u]
	if t.kind == nothing {
		return api.Reply{}, false, api.ErrIdle
	}
	reply, done := x.advance(t)
	if done {
		*t = task{}
	}
	return reply, done, api.OK
}
