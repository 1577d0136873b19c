package motion

import "chart/stand"

func (m *machine) microstep(list []int) {
	left := m.leftByAll(list)
	m.now.Remember(m.plan, &left)
	m.leave(&left)
	for i := 0; i < len(list); i++ {
		m.do(m.plan.Transitions[list[i]].Acts)
	}
	m.enter(list)
}

func (m *machine) leftByAll(list []int) stand.Set {
	var left stand.Set
	for i := 0; i < len(list); i++ {
		one := m.leaves(list[i])
		left.Join(&one)
	}
	return left
}

func (m *machine) leave(left *stand.Set) {
	for i := len(m.plan.States) - 1; i >= 0; i-- {
		if left.Has(i) {
			m.doBlocks(i, '$')
			m.now.Active.Drop(i)
		}
	}
}

func (m *machine) doBlocks(state int, sign byte) {
	for i := 0; i < len(m.plan.Blocks); i++ {
		b := m.plan.Blocks[i]
		if b.State == state && b.Sign == sign {
			m.do(b.Acts)
		}
	}
}
