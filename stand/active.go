package stand

import (
	"chart/api"
	"chart/outline"
)

// Set is a set of a chart's states, by their places in the list of states.
type Set struct {
	in [api.MaxStates]bool
}

// Has tells whether a state is in the set.
func (s *Set) Has(i int) bool {
	return i >= 0 && i < len(s.in) && s.in[i]
}

// Put lays a state into the set.
func (s *Set) Put(i int) {
	if i >= 0 && i < len(s.in) {
		s.in[i] = true
	}
}

// Drop takes a state out of the set.
func (s *Set) Drop(i int) {
	if i >= 0 && i < len(s.in) {
		s.in[i] = false
	}
}

// Join lays all states of another set into the set.
func (s *Set) Join(other *Set) {
	for i := 0; i < len(s.in); i++ {
		s.in[i] = s.in[i] || other.in[i]
	}
}

// Meets tells whether there is a state in both sets.
func (s *Set) Meets(other *Set) bool {
	for i := 0; i < len(s.in); i++ {
		if s.in[i] && other.in[i] {
			return true
		}
	}
	return false
}

// takeActive asks for no number of names, as a name that does not stand behind the
// one before it ends the loop.
func takeActive(o *outline.Outline, names string) (Set, bool) {
	var active Set
	last := outline.Document
	for i := 0; i < len(names); i++ {
		at := o.Place(names[i])
		if at <= last {
			return Set{}, false
		}
		active.Put(at)
		last = at
	}
	for i := 0; i < len(o.States); i++ {
		if !fits(o, &active, i) {
			return Set{}, false
		}
	}
	return active, true
}

// fits tells whether a state may be active, or may not, beside the others that are.
func fits(o *outline.Outline, active *Set, i int) bool {
	parent := o.Parent(i)
	if !active.Has(i) {
		return parent != outline.Document
	}
	if parent != outline.Document && !active.Has(parent) {
		return false
	}
	switch o.Kind(i) {
	case api.Compound:
		return countChildren(o, i, active, true) == 1
	case api.Parallel:
		return countChildren(o, i, active, false) == 0
	case api.History:
		return false
	}
	return true
}

// countChildren counts the children that are in a set, or those that are not.
func countChildren(o *outline.Outline, parent int, set *Set, in bool) int {
	n := 0
	for i := 0; i < len(o.States); i++ {
		if set.Has(i) == in && o.IsChild(i, parent) {
			n++
		}
	}
	return n
}
