// Package outline reads a chart's text: what states, transitions and blocks it has,
// or where it is at fault.
package outline

import "chart/api"

// State is a state of a chart, as its text tells it.
type State struct {
	Name   byte
	At     int // the place of its name in the text
	Kind   int
	Parent int // its parent's place in the list of states; of the root Document
}

// Transition is a transition of a chart.
type Transition struct {
	State   int // the place, in the list of states, of the state in which it stands
	Trigger byte
	Guard   Guard
	Acts    []Act
	Target  byte
}

// Guard is what must hold for a transition to be chosen. A Sign of 0 asks for nothing.
type Guard struct {
	Variable, Sign byte
	Digit          int
}

// Block is a block of a state. Its Sign tells when it is done.
type Block struct {
	State int // the state's place in the list of states
	Sign  byte
	Acts  []Act
}

// Act is an act: its Letter is an event or a variable. Without a digit in the text
// Digit is 0.
type Act struct {
	Sign, Letter byte
	Digit        int
}

// Outline is what Read found: states, transitions and blocks in the order of the
// text, or an error and its place.
type Outline struct {
	Err         api.Errno
	Fault       int
	States      []State
	Transitions []Transition
	Blocks      []Block
}

// Read reads a chart's text.
func Read(text string) Outline {
	if len(text) > api.MaxText {
		return Outline{Err: api.ErrLong}
	}
	r := reader{text: text}
	ok := r.chart()
	if !ok {
		return Outline{Err: api.ErrSyntax, Fault: r.at}
	}
	f := r.found.judge(r.uses)
	if f.err != api.OK {
		return Outline{Err: f.err, Fault: f.at}
	}
	return r.found
}
