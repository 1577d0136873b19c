// Package motion tells how a chart goes on: how it begins, and how it stands behind
// an event and behind a tick.
package motion

import (
	"chart/api"
	"chart/outline"
	"chart/stand"
)

// machine is a chart in motion.
type machine struct {
	plan  *outline.Outline
	now   stand.Stand
	queue []byte
	out   []byte
}

// Start tells how a chart begins and what is put out then, or ErrFuel.
func Start(plan *outline.Outline) (stand.Stand, string, api.Errno) {
	m := machine{plan: plan, now: stand.Blank(plan)}
	m.enter(nil)
	return m.finish(api.Fuel)
}

// Fire tells how a chart stands behind an event and what is put out then, or ErrFuel.
func Fire(plan *outline.Outline, before stand.Stand, event byte) (stand.Stand, string, api.Errno) {
	m := machine{plan: plan, now: before}
	list := m.choose(event)
	m.microstep(list)
	return m.finish(api.Fuel - 1)
}

// Wait tells how a chart stands behind a tick and what is put out then. It ends, as
// each turn takes out an event that comes now, and none can be sent to come now.
func Wait(plan *outline.Outline, before stand.Stand) (stand.Stand, string) {
	now := before
	now.Tick()
	var out []byte
	for {
		event, ok := now.TakeDue()
		if !ok {
			return now, string(out)
		}
		after, text, e := Fire(plan, now, event)
		if e == api.OK {
			now = after
			out = append(out, text...)
		}
	}
}

// finish does the rounds that are still to do, of which there may be so many.
func (m *machine) finish(rounds int) (stand.Stand, string, api.Errno) {
	for i := 0; i < rounds && m.isBusy(); i++ {
		m.round()
	}
	if m.isBusy() {
		return stand.Stand{}, "", api.ErrFuel
	}
	return m.now, string(m.out), api.OK
}

// isBusy tells whether there is anything to do.
func (m *machine) isBusy() bool {
	list := m.choose('.')
	return len(list) > 0 || len(m.queue) > 0
}

// round is called when there is something to do.
func (m *machine) round() {
	list := m.choose('.')
	if len(list) == 0 && len(m.queue) > 0 {
		first := m.queue[0]
		m.queue = m.queue[1:]
		list = m.choose(first)
	}
	m.microstep(list)
}
