package motion

import "chart/outline"

// failed is the event that tells that an act could not be done.
const failed = 'z'

// do does the acts of one block or one transition, up to the first that is an error.
func (m *machine) do(acts []outline.Act) {
	for i := 0; i < len(acts); i++ {
		ok := m.act(acts[i])
		if !ok {
			m.raise(failed)
			return
		}
	}
}

func (m *machine) act(a outline.Act) bool {
	switch a.Sign {
	case '!':
		m.raise(a.Letter)
	case '@':
		return m.now.Send(a.Letter, a.Digit)
	case '~':
		m.now.CallBack(a.Letter)
	case '#':
		m.out = append(m.out, a.Letter)
	default:
		return m.change(a)
	}
	return true
}

// change does an act with a variable.
func (m *machine) change(a outline.Act) bool {
	n := a.Digit
	switch a.Sign {
	case '+':
		n = m.now.Variable(a.Letter) + a.Digit
	case '-':
		n = m.now.Variable(a.Letter) - a.Digit
	}
	return m.now.SetVariable(a.Letter, n)
}

// raise lays an event or a name at the end of the queue.
func (m *machine) raise(what byte) {
	m.queue = append(m.queue, what)
}
