package outline

import "chart/api"

// use is a place where a transition names a state.
type use struct {
	name byte
	at   int
}

// reader goes through a text byte by byte. Its methods answer false where the
// text is no chart; they stop there, so that at is then the place of the fault.
type reader struct {
	text   string
	at     int
	states []State
	uses   []use
}

// peek tells the next byte. At the text's end it is 0, which can stand nowhere in
// a chart, so that an end that comes too early needs no test of its own.
func (r *reader) peek() byte {
	if r.at >= len(r.text) {
		return 0
	}
	return r.text[r.at]
}

// skip goes past the next byte, if it may stand there.
func (r *reader) skip(fits bool) bool {
	if fits {
		r.at++
	}
	return fits
}

func (r *reader) take(want byte) bool {
	c := r.peek()
	return r.skip(c == want)
}

func (r *reader) takeEvent() bool {
	c := r.peek()
	return r.skip(isEvent(c))
}

func (r *reader) takeVariable() bool {
	c := r.peek()
	return r.skip(c == 'x' || c == 'y' || c == 'z')
}

func (r *reader) takeDigit(lowest byte) bool {
	c := r.peek()
	return r.skip(c >= lowest && c <= '9')
}

func (r *reader) chart() bool {
	c := r.peek()
	if c != '(' && c != '[' {
		return false
	}
	ok := r.state(-1)
	if !ok {
		return false
	}
	return r.at == len(r.text)
}

// state is called where a byte stands that begins a state.
func (r *reader) state(parent int) bool {
	open := r.peek()
	r.at++
	self := len(r.states)
	ok := r.stateName(open, parent)
	if !ok {
		return false
	}
	switch open {
	case '(':
		return r.items(self, ')')
	case '[':
		return r.items(self, ']')
	case '<':
		return r.take('>')
	}
	return true
}

func (r *reader) stateName(open byte, parent int) bool {
	c := r.peek()
	if !isName(c) {
		return false
	}
	kind := kindOf(open)
	r.states = append(r.states, State{Name: c, At: r.at, Kind: kind, Parent: parent})
	r.markParent(parent)
	r.at++
	return true
}

// markParent makes a state compound: only now, with a state among its items, is
// it known not to be plain.
func (r *reader) markParent(parent int) {
	if parent < 0 || parent >= len(r.states) {
		return
	}
	if r.states[parent].Kind == api.Plain {
		r.states[parent].Kind = api.Compound
	}
}

// items reads up to the bracket that closes the state they stand in. It ends, as
// each turn goes past a byte at least, and so does the recursion through state.
func (r *reader) items(self int, closing byte) bool {
	for {
		ok := false
		switch r.peek() {
		case '(', '[', '<', '*':
			ok = r.state(self)
		case ':':
			ok = r.transition()
		case '^', '$':
			ok = r.block()
		default:
			return r.take(closing)
		}
		if !ok {
			return false
		}
	}
}

// transition is called where a ':' stands.
func (r *reader) transition() bool {
	r.at++
	ok := r.trigger()
	if !ok {
		return false
	}
	ok = r.guard()
	if !ok {
		return false
	}
	ok = r.acts('>')
	if !ok {
		return false
	}
	return r.target()
}

func (r *reader) trigger() bool {
	c := r.peek()
	r.noteUse(c)
	return r.skip(c == '.' || isEvent(c) || isName(c))
}

func (r *reader) target() bool {
	c := r.peek()
	r.noteUse(c)
	return r.skip(c == '-' || isName(c))
}

func (r *reader) noteUse(c byte) {
	if isName(c) {
		r.uses = append(r.uses, use{name: c, at: r.at})
	}
}

// guard goes past a guard; none is as good.
func (r *reader) guard() bool {
	asks := r.take('?')
	if !asks {
		return true
	}
	ok := r.takeVariable()
	if !ok {
		return false
	}
	c := r.peek()
	ok = r.skip(c == '<' || c == '=' || c == '>')
	if !ok {
		return false
	}
	return r.takeDigit('0')
}

// block is called where a '^' or a '$' stands.
func (r *reader) block() bool {
	r.at++
	return r.acts(';')
}

// acts reads up to the byte that stands behind them. It ends, as each turn goes
// past a byte at least.
func (r *reader) acts(closing byte) bool {
	for {
		ok := false
		switch r.peek() {
		case '!', '~', '#':
			ok = r.eventAct()
		case '@':
			ok = r.timerAct()
		case '+', '-', '=':
			ok = r.variableAct()
		default:
			return r.take(closing)
		}
		if !ok {
			return false
		}
	}
}

func (r *reader) eventAct() bool {
	r.at++
	return r.takeEvent()
}

func (r *reader) timerAct() bool {
	r.at++
	ok := r.takeEvent()
	if !ok {
		return false
	}
	return r.takeDigit('1')
}

func (r *reader) variableAct() bool {
	r.at++
	ok := r.takeVariable()
	if !ok {
		return false
	}
	return r.takeDigit('0')
}

func isName(c byte) bool {
	return c >= 'A' && c <= 'Z'
}

func isEvent(c byte) bool {
	return c >= 'a' && c <= 'z'
}

// kindOf takes round brackets for those of a plain state until a state is found in them.
func kindOf(open byte) int {
	switch open {
	case '[':
		return api.Parallel
	case '<':
		return api.Final
	case '*':
		return api.History
	}
	return api.Plain
}
