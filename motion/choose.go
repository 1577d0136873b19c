package motion

import (
	"chart/api"
	"chart/outline"
	"chart/stand"
)

// choose makes the list of the transitions, by their places in the plan, that an
// event, a name or '.' sets off.
func (m *machine) choose(trigger byte) []int {
	found := m.find(trigger)
	var list []int
	for i := 0; i < len(found); i++ {
		list = m.admit(list, found[i])
	}
	return list
}

// find looks for a transition from each active state without children upwards. What
// was found once is kept apart from the list, as a transition that went out of the
// list does not come in again.
func (m *machine) find(trigger byte) []int {
	var found []int
	for i := 0; i < len(m.plan.States); i++ {
		if !m.isLeaf(i) {
			continue
		}
		t := m.findFrom(i, trigger)
		if t != outline.Nowhere && !contains(found, t) {
			found = append(found, t)
		}
	}
	return found
}

func (m *machine) isLeaf(i int) bool {
	kind := m.plan.States[i].Kind
	return m.now.Active.Has(i) && (kind == api.Plain || kind == api.Final)
}

func (m *machine) findFrom(leaf int, trigger byte) int {
	for i := leaf; i != outline.Document; i = m.plan.Parent(i) {
		t := m.findIn(i, trigger)
		if t != outline.Nowhere {
			return t
		}
	}
	return outline.Nowhere
}

func (m *machine) findIn(state int, trigger byte) int {
	for i := 0; i < len(m.plan.Transitions); i++ {
		t := m.plan.Transitions[i]
		if t.State == state && t.Trigger == trigger && m.holds(t.Guard) {
			return i
		}
	}
	return outline.Nowhere
}

func (m *machine) holds(g outline.Guard) bool {
	n := m.now.Variable(g.Variable)
	switch g.Sign {
	case '<':
		return n < g.Digit
	case '=':
		return n == g.Digit
	case '>':
		return n > g.Digit
	}
	return true
}

func contains(list []int, n int) bool {
	for i := 0; i < len(list); i++ {
		if list[i] == n {
			return true
		}
	}
	return false
}

// admit makes the list that comes of one more transition: with it at the end and
// without those that give way to it, or just as it was, if one does not.
func (m *machine) admit(list []int, t int) []int {
	leaves := m.leaves(t)
	var kept []int
	for i := 0; i < len(list); i++ {
		other := m.leaves(list[i])
		if !leaves.Meets(&other) {
			kept = append(kept, list[i])
			continue
		}
		if !m.standsWithin(t, list[i]) {
			return list
		}
	}
	kept = append(kept, t)
	return kept
}

// standsWithin tells whether the state of the other transition is above that of t.
func (m *machine) standsWithin(t, other int) bool {
	return m.plan.IsAbove(m.plan.Transitions[other].State, m.plan.Transitions[t].State)
}

// leaves tells which active states a transition leaves.
func (m *machine) leaves(t int) stand.Set {
	var left stand.Set
	if m.plan.Transitions[t].Target == '-' {
		return left
	}
	domain := m.plan.Domain(m.plan.Transitions[t])
	for i := 0; i < len(m.plan.States); i++ {
		if m.now.Active.Has(i) && m.plan.IsAbove(domain, i) {
			left.Put(i)
		}
	}
	return left
}
