package service

import (
	"chart/api"
	"chart/motion"
)

// advance does the next step of a task that is there.
func (x *Service) advance(t *task) (api.Reply, bool) {
	switch t.kind {
	case api.Read:
		return x.stepRead(t)
	case api.Poll:
		return x.poll(t.at), true
	}
	return x.stepInTurn(t)
}

// refusal is the reply of a request that ends with an error.
func (x *Service) refusal(e api.Errno) api.Reply {
	return api.Reply{Err: e, Version: x.versions.latest()}
}

// stepInTurn does a step of a Send or a Tick. As each of them keeps its turn until it
// is done, they are done one behind the other, in the order of their tickets.
func (x *Service) stepInTurn(t *task) (api.Reply, bool) {
	if !t.drawn {
		t.drawn = true
		t.ticket = x.tickets
		x.tickets++
		return api.Reply{}, false
	}
	if t.ticket != x.turn {
		return api.Reply{}, false
	}
	reply, done := x.makeVersion(t)
	if done {
		x.turn++
	}
	return reply, done
}

func (x *Service) makeVersion(t *task) (api.Reply, bool) {
	if t.kind == api.Tick {
		return x.tick(), true
	}
	return x.stepSend(t)
}

func (x *Service) tick() api.Reply {
	before := x.versions.last()
	after, out := motion.Wait(&x.plan, before)
	x.publish(after, out)
	return api.Reply{Version: x.versions.latest(), Text: out}
}

func (x *Service) stepSend(t *task) (api.Reply, bool) {
	if t.fired == 0 {
		if t.at >= 0 && t.at != x.versions.latest() {
			return x.refusal(api.ErrVersion), true
		}
		t.now = x.versions.last()
	}
	e := x.fireNext(t)
	if e != api.OK {
		reply := x.refusal(e)
		reply.Index = t.fired
		return reply, true
	}
	if t.fired < len(t.events) {
		return api.Reply{}, false
	}
	x.publish(t.now, t.out)
	return api.Reply{Version: x.versions.latest(), Index: t.fired, Text: t.out}, true
}

func (x *Service) fireNext(t *task) api.Errno {
	if t.fired >= len(t.events) {
		return api.OK
	}
	after, out, e := motion.Fire(&x.plan, t.now, t.events[t.fired])
	if e != api.OK {
		return e
	}
	t.now = after
	t.out += out
	t.fired++
	return api.OK
}

func (x *Service) stepRead(t *task) (api.Reply, bool) {
	t.steps++
	switch t.steps {
	case 1:
		return x.takeVersion(t)
	case 2:
		return api.Reply{}, false
	}
	now := x.versions.release(t.pinned)
	return api.Reply{Version: t.pinned, State: now.State(&x.plan)}, true
}

// takeVersion pins the version that a Read asks for. The Read is done with it if
// there is no such version.
func (x *Service) takeVersion(t *task) (api.Reply, bool) {
	number := t.at
	if number < 0 {
		number = x.versions.latest()
	}
	if number > x.versions.latest() {
		return x.refusal(api.ErrVersion), true
	}
	ok := x.versions.pin(number)
	if !ok {
		return x.refusal(api.ErrGone), true
	}
	t.pinned = number
	return api.Reply{}, false
}

func (x *Service) poll(at int) api.Reply {
	text, e := x.log.tell(at)
	if e != api.OK {
		return x.refusal(e)
	}
	return api.Reply{Version: x.versions.latest(), Next: at + len(text), Text: text}
}
