package chart_test

import (
	"slices"

	"chart/api"
)

// This file tells what a service answers in another way than the program does: it
// forgets nothing, works out from all that ever was what would still be kept, and
// does a Send at once, with the step that must be its last.

type keeper struct {
	text    string
	states  []api.State // all versions
	log     string      // all that was put out
	waiting []*errand   // those with a ticket that are not done, in the order of the tickets
	of      []*errand   // by client; nil: none
}

type errand struct {
	r      api.Request
	steps  int // of a Send or a Tick: those in its turn
	taken  int // of a Read: the version, or -1
	ticket bool
}

func newKeeper(text string, clients int) *keeper {
	s, out, e := wantStart(text)
	if e != api.OK || clients < 1 || clients > 6 {
		return nil
	}
	return &keeper{text: text, states: []api.State{s}, log: out, of: make([]*errand, clients)}
}

func (k *keeper) latest() int { return len(k.states) - 1 }

func (k *keeper) keeps(v int) bool {
	return v >= 0 && v <= k.latest() && (v+4 > k.latest() || slices.ContainsFunc(k.of, func(d *errand) bool {
		return d != nil && d.taken == v
	}))
}

func (k *keeper) versions() []int {
	var l []int
	for v := range k.states {
		if k.keeps(v) {
			l = append(l, v)
		}
	}
	return l
}

func (k *keeper) ask(u int, r api.Request) api.Errno {
	switch {
	case u < 0 || u >= len(k.of):
		return api.ErrClient
	case k.of[u] != nil:
		return api.ErrBusy
	case !wantRequest(r):
		return api.ErrRequest
	}
	k.of[u] = &errand{r: r, taken: -1}
	return api.OK
}

func (k *keeper) step(u int) (api.Reply, bool, api.Errno) {
	if u < 0 || u >= len(k.of) {
		return api.Reply{}, false, api.ErrClient
	}
	d := k.of[u]
	if d == nil {
		return api.Reply{}, false, api.ErrIdle
	}
	reply, done := k.work(d)
	if !done {
		return api.Reply{}, false, api.OK
	}
	k.of[u] = nil
	if d.ticket {
		k.waiting = k.waiting[1:]
	}
	if d.r.Kind != api.Read || reply.Err != api.OK {
		reply.Version = k.latest()
	}
	return reply, true, api.OK
}

func (k *keeper) work(d *errand) (api.Reply, bool) {
	switch {
	case d.r.Kind == api.Poll:
		return pollAll(k.log, d.r.At), true
	case d.r.Kind == api.Read:
		return k.read(d)
	case !d.ticket:
		d.ticket = true
		k.waiting = append(k.waiting, d)
		return api.Reply{}, false
	case k.waiting[0] != d:
		return api.Reply{}, false
	}
	d.steps++
	next, reply, need := atOnce(k.text, k.states, d.r)
	if d.steps < need {
		return api.Reply{}, false
	}
	if reply.Err == api.OK {
		k.states = append(k.states, next)
		k.log += reply.Text
	}
	return reply, true
}

func (k *keeper) read(d *errand) (api.Reply, bool) {
	if d.steps++; d.steps > 1 {
		return api.Reply{Version: d.taken, State: k.states[d.taken]}, d.steps == 3
	}
	v := d.r.At
	if v == -1 {
		v = k.latest()
	}
	switch {
	case v > k.latest():
		return api.Reply{Err: api.ErrVersion}, true
	case !k.keeps(v):
		return api.Reply{Err: api.ErrGone}, true
	}
	d.taken = v
	return api.Reply{}, false
}

// atOnce does a Send or a Tick on the last of these states. It tells the state behind
// it, the reply but for its Version, and how many steps that takes behind the ticket.
func atOnce(text string, states []api.State, r api.Request) (api.State, api.Reply, int) {
	s := states[len(states)-1]
	if r.Kind == api.Tick {
		s, out, _ := wantWait(text, s)
		return s, api.Reply{Text: out}, 1
	}
	if r.At >= 0 && r.At != len(states)-1 {
		return api.State{}, api.Reply{Err: api.ErrVersion}, 1
	}
	all := ""
	for i := range r.Events {
		next, out, e := fired(text, s, r.Events[i:i+1])
		if e != api.OK {
			return api.State{}, api.Reply{Err: e, Index: i}, i + 1
		}
		s, all = next, all+out
	}
	return s, api.Reply{Index: len(r.Events), Text: all}, len(r.Events)
}

func pollAll(log string, at int) api.Reply {
	switch {
	case at > len(log):
		return api.Reply{Err: api.ErrVersion}
	case at+24 < len(log):
		return api.Reply{Err: api.ErrGone}
	}
	end := min(at+8, len(log))
	return api.Reply{Text: log[at:end], Next: end}
}
