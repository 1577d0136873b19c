// Package stand has how a chart stands: which of its states are active, which were
// active when their parents were left, what was sent, and the variables.
package stand

import (
	"chart/api"
	"chart/outline"
)

// Stand is how a chart stands. It holds no memory that a copy of it would share, so
// that a copy is enough to keep how a chart stood.
type Stand struct {
	Active  Set
	past    memory
	timers  string
	x, y, z int
}

// Blank is how a chart stands before it begins.
func Blank(o *outline.Outline) Stand {
	past := blankPast(o)
	return Stand{past: past}
}

// Take reads how a chart stands. It answers false if s is no state of this chart.
func Take(o *outline.Outline, s api.State) (Stand, bool) {
	active, ok := takeActive(o, s.Active)
	if !ok {
		return Stand{}, false
	}
	past, ok := takePast(o, s.Past)
	if !ok {
		return Stand{}, false
	}
	ok = areTimers(s.Timers)
	if !ok || !inBounds(s.X) || !inBounds(s.Y) || !inBounds(s.Z) {
		return Stand{}, false
	}
	return Stand{Active: active, past: past, timers: s.Timers, x: s.X, y: s.Y, z: s.Z}, true
}

// State tells how a chart stands in the form that goes out.
func (s *Stand) State(o *outline.Outline) api.State {
	var active, past []byte
	for i := 0; i < len(o.States) && i < len(s.past); i++ {
		if s.Active.Has(i) {
			active = append(active, o.States[i].Name)
		}
		if o.States[i].Kind == api.History {
			past = append(past, s.past[i])
		}
	}
	return api.State{Active: string(active), Past: string(past), Timers: s.timers, X: s.x, Y: s.y, Z: s.z}
}
