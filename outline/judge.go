package outline

import "chart/api"

// nowhere is the place of a fault that is not there.
const nowhere = -1

// judge looks for faults in a text of the right syntax, in the order in which the
// errors come before one another.
func judge(states []State, uses []use) Outline {
	if len(states) > api.MaxStates {
		return Outline{Err: api.ErrMany, Fault: states[api.MaxStates].At}
	}
	at := firstTwice(states)
	if at != nowhere {
		return Outline{Err: api.ErrTwice, Fault: at}
	}
	at = firstMisshapen(states)
	if at != nowhere {
		return Outline{Err: api.ErrShape, Fault: at}
	}
	at = firstUnknown(states, uses)
	if at != nowhere {
		return Outline{Err: api.ErrName, Fault: at}
	}
	return Outline{States: states}
}

func firstTwice(states []State) int {
	for i := 0; i < len(states); i++ {
		if hasName(states[:i], states[i].Name) {
			return states[i].At
		}
	}
	return nowhere
}

func firstMisshapen(states []State) int {
	for i := 0; i < len(states); i++ {
		if misshapen(states, i) {
			return states[i].At
		}
	}
	return nowhere
}

func firstUnknown(states []State, uses []use) int {
	for i := 0; i < len(uses); i++ {
		if !hasName(states, uses[i].name) {
			return uses[i].at
		}
	}
	return nowhere
}

func hasName(states []State, name byte) bool {
	for i := 0; i < len(states); i++ {
		if states[i].Name == name {
			return true
		}
	}
	return false
}

// misshapen asks only for a parallel parent, as a parent that is not in round
// brackets is in square ones; and only for children of what is compound, as a
// compound state without children has histories alone among its items.
func misshapen(states []State, i int) bool {
	switch states[i].Kind {
	case api.History, api.Final:
		return inParallel(states, states[i].Parent)
	case api.Parallel, api.Compound:
		return !hasChild(states, i)
	}
	return false
}

func inParallel(states []State, parent int) bool {
	if parent < 0 || parent >= len(states) {
		return false
	}
	return states[parent].Kind == api.Parallel
}

func hasChild(states []State, parent int) bool {
	for i := 0; i < len(states); i++ {
		if states[i].Parent == parent && states[i].Kind != api.History {
			return true
		}
	}
	return false
}
