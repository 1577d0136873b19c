// Package outline reads a chart's text: which states it has, or where it is at fault.
package outline

import "chart/api"

// State is a state of a chart, as its text tells it.
type State struct {
	Name   byte
	At     int // the place of its name in the text
	Kind   int
	Parent int // its parent's place in the list of states; of the root -1
}

// Outline is what Read found: the states in their order, or an error and its place.
type Outline struct {
	Err    api.Errno
	Fault  int
	States []State
}

// Read reads a chart's text.
func Read(text string) Outline {
	if len(text) > api.MaxText {
		return Outline{Err: api.ErrLong}
	}
	r := reader{text: text}
	ok := r.chart()
	if !ok {
		return Outline{Err: api.ErrSyntax, Fault: r.at}
	}
	return judge(r.states, r.uses)
}
