package motion

import (
	"chart/api"
	"chart/outline"
	"chart/stand"
)

// enter is called when only the states that stay are active.
func (m *machine) enter(list []int) {
	stayed := m.now.Active
	goals := m.goals(list)
	for i := 0; i < len(m.plan.States); i++ {
		if m.isDue(i, &stayed, goals) {
			m.enterState(i)
		}
	}
}

func (m *machine) goals(list []int) []int {
	var goals []int
	for i := 0; i < len(list); i++ {
		name := m.plan.Transitions[list[i]].Target
		if name == '-' {
			continue
		}
		target := m.plan.Place(name)
		goal := m.now.Goal(m.plan, target)
		goals = append(goals, goal)
	}
	return goals
}

// isDue tells whether a state is to be entered. It is asked when all states ahead
// of it that are to be entered have been, its parent among them.
func (m *machine) isDue(i int, stayed *stand.Set, goals []int) bool {
	parent := m.plan.Parent(i)
	if stayed.Has(i) || !m.plan.IsChild(i, parent) {
		return false
	}
	if parent != outline.Document && !m.now.Active.Has(parent) {
		return false
	}
	if m.plan.Kind(parent) == api.Parallel {
		return true
	}
	return !m.keptChild(parent, stayed) && m.isPicked(i, parent, goals)
}

func (m *machine) keptChild(parent int, stayed *stand.Set) bool {
	for i := 0; i < len(m.plan.States); i++ {
		if stayed.Has(i) && m.plan.IsChild(i, parent) {
			return true
		}
	}
	return false
}

// isPicked tells whether a child of a compound state is the one to be entered.
func (m *machine) isPicked(child, parent int, goals []int) bool {
	for i := 0; i < len(goals); i++ {
		if m.plan.IsAbove(parent, goals[i]) {
			return child == goals[i] || m.plan.IsAbove(child, goals[i])
		}
	}
	return child == m.plan.FirstChild(parent)
}

func (m *machine) enterState(i int) {
	m.now.Active.Put(i)
	m.doBlocks(i, '^')
	if m.plan.States[i].Kind == api.Final {
		m.tellEnd(m.plan.States[i].Parent)
	}
}

// tellEnd raises the name of a state that has just come to its end, and that of its
// parent, if all that live side by side in that one have now come to theirs.
func (m *machine) tellEnd(state int) {
	if state == outline.Document {
		return
	}
	m.raise(m.plan.States[state].Name)
	parent := m.plan.Parent(state)
	if m.plan.Kind(parent) == api.Parallel && m.isAtEnd(parent) {
		m.raise(m.plan.States[parent].Name)
	}
}

// isAtEnd ends, as it goes from a state to its children.
func (m *machine) isAtEnd(state int) bool {
	switch m.plan.Kind(state) {
	case api.Compound:
		return m.hasFinalChild(state)
	case api.Parallel:
		return m.areAllAtEnd(state)
	}
	return false
}

func (m *machine) hasFinalChild(state int) bool {
	for i := 0; i < len(m.plan.States); i++ {
		if m.plan.States[i].Kind == api.Final && m.plan.States[i].Parent == state && m.now.Active.Has(i) {
			return true
		}
	}
	return false
}

func (m *machine) areAllAtEnd(state int) bool {
	for i := 0; i < len(m.plan.States); i++ {
		if m.plan.IsChild(i, state) && !m.isAtEnd(i) {
			return false
		}
	}
	return true
}
