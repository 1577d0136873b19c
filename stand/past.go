package stand

import (
	"chart/api"
	"chart/outline"
)

// memory has, at the places of histories in the list of states, the name of the
// child that was active when the parent was left last, or '-'.
type memory [api.MaxStates]byte

func blankPast(o *outline.Outline) memory {
	var past memory
	for i := 0; i < len(o.States) && i < len(past); i++ {
		if o.States[i].Kind == api.History {
			past[i] = '-'
		}
	}
	return past
}

// takePast reads a byte for each history. It answers false if there are more or
// less of them, or one that may not stand there.
func takePast(o *outline.Outline, text string) (memory, bool) {
	past := blankPast(o)
	n := 0
	for i := 0; i < len(o.States) && i < len(past); i++ {
		if o.States[i].Kind != api.History {
			continue
		}
		if n >= len(text) || !isPast(o, i, text[n]) {
			return memory{}, false
		}
		past[i] = text[n]
		n++
	}
	if n != len(text) {
		return memory{}, false
	}
	return past, true
}

func isPast(o *outline.Outline, at int, name byte) bool {
	if name == '-' {
		return true
	}
	parent := o.Parent(at)
	child := o.Place(name)
	return o.IsChild(child, parent)
}

// Remember lays down the names of active children for the histories whose parents
// are left. It is called while those are still active.
func (s *Stand) Remember(o *outline.Outline, left *Set) {
	for i := 0; i < len(o.States) && i < len(s.past); i++ {
		if o.States[i].Kind != api.History || !left.Has(o.States[i].Parent) {
			continue
		}
		child := s.activeChild(o, o.States[i].Parent)
		if child != outline.Nowhere {
			s.past[i] = o.States[child].Name
		}
	}
}

func (s *Stand) activeChild(o *outline.Outline, parent int) int {
	for i := 0; i < len(o.States); i++ {
		if s.Active.Has(i) && o.IsChild(i, parent) {
			return i
		}
	}
	return outline.Nowhere
}

// Goal tells what a target stands for: itself, or with a history one of the
// children of its parent.
func (s *Stand) Goal(o *outline.Outline, target int) int {
	if target < 0 || target >= len(s.past) || o.Kind(target) != api.History {
		return target
	}
	if s.past[target] == '-' {
		parent := o.Parent(target)
		return o.FirstChild(parent)
	}
	return o.Place(s.past[target])
}
