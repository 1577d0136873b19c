package outline

import "chart/api"

// fault is an error and its place.
type fault struct {
	err api.Errno
	at  int
}

// judge looks for faults in a text of the right syntax, in the order in which the
// errors come before one another.
func (o *Outline) judge(uses []use) fault {
	if len(o.States) > api.MaxStates {
		return fault{err: api.ErrMany, at: o.States[api.MaxStates].At}
	}
	at := o.firstTwice()
	if at != Nowhere {
		return fault{err: api.ErrTwice, at: at}
	}
	at = o.firstMisshapen()
	if at != Nowhere {
		return fault{err: api.ErrShape, at: at}
	}
	at = o.firstUnknown(uses)
	if at != Nowhere {
		return fault{err: api.ErrName, at: at}
	}
	return fault{}
}

func (o *Outline) firstTwice() int {
	for i := 0; i < len(o.States); i++ {
		if o.Place(o.States[i].Name) < i {
			return o.States[i].At
		}
	}
	return Nowhere
}

func (o *Outline) firstMisshapen() int {
	for i := 0; i < len(o.States); i++ {
		if o.isMisshapen(i) {
			return o.States[i].At
		}
	}
	return Nowhere
}

func (o *Outline) firstUnknown(uses []use) int {
	for i := 0; i < len(uses); i++ {
		if o.Place(uses[i].name) == Nowhere {
			return uses[i].at
		}
	}
	return Nowhere
}

// isMisshapen asks only for a parallel parent, as a parent that is not in round
// brackets is in square ones; and only for children of what is compound, as a
// compound state without children has histories alone among its items.
func (o *Outline) isMisshapen(i int) bool {
	switch o.States[i].Kind {
	case api.History, api.Final:
		return o.Kind(o.States[i].Parent) == api.Parallel
	case api.Parallel, api.Compound:
		return o.FirstChild(i) == Nowhere
	}
	return false
}
