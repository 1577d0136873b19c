package outline

import "chart/api"

// Places that are in no list of states.
const (
	Document = -1 // the state that is thought of above the root
	Nowhere  = -2
)

// Place tells where in the list of states a name stands, or Nowhere.
func (o *Outline) Place(name byte) int {
	for i := 0; i < len(o.States); i++ {
		if o.States[i].Name == name {
			return i
		}
	}
	return Nowhere
}

// Kind tells a state's kind. The document is compound.
func (o *Outline) Kind(i int) int {
	if i < 0 || i >= len(o.States) {
		return api.Compound
	}
	return o.States[i].Kind
}

// Parent tells a state's parent. Above the document there is none, and it stands
// for its own one, so that each climb comes to it and goes no further.
func (o *Outline) Parent(i int) int {
	if i < 0 || i >= len(o.States) {
		return Document
	}
	return o.States[i].Parent
}

// IsAbove tells whether one state is above another. It ends, as a parent stands
// ahead of its children.
func (o *Outline) IsAbove(high, low int) bool {
	for i := low; i > Document; {
		i = o.Parent(i)
		if i == high {
			return true
		}
	}
	return false
}

// IsChild tells whether one state is a child of another.
func (o *Outline) IsChild(i, parent int) bool {
	if i < 0 || i >= len(o.States) {
		return false
	}
	return o.States[i].Parent == parent && o.States[i].Kind != api.History
}

// FirstChild tells a state's first child, or Nowhere.
func (o *Outline) FirstChild(parent int) int {
	for i := 0; i < len(o.States); i++ {
		if o.IsChild(i, parent) {
			return i
		}
	}
	return Nowhere
}

// Domain tells the domain of a transition that has a target. It ends, as each turn
// climbs, and the document is above all.
func (o *Outline) Domain(t Transition) int {
	target := o.Place(t.Target)
	d := o.Parent(t.State)
	for d != Document && !o.encloses(d, target) {
		d = o.Parent(d)
	}
	return d
}

func (o *Outline) encloses(d, target int) bool {
	kind := o.Kind(d)
	if kind != api.Compound {
		return false
	}
	return o.IsAbove(d, target)
}
