package outline

import "chart/api"

// use is a place where a transition names a state.
type use struct {
	name byte
	at   int
}

// reader goes through a text byte by byte. Its methods answer false where the
// text is no chart; they stop there, so that at is then the place of the fault.
type reader struct {
	text  string
	at    int
	found Outline
	uses  []use
}

// peek tells the next byte. At the text's end it is 0, which can stand nowhere in
// a chart, so that an end that comes too early needs no test of its own.
func (r *reader) peek() byte {
	if r.at >= len(r.text) {
		return 0
	}
	return r.text[r.at]
}

// skip goes past the next byte, if it may stand there.
func (r *reader) skip(fits bool) bool {
	if fits {
		r.at++
	}
	return fits
}

func (r *reader) take(want byte) bool {
	c := r.peek()
	return r.skip(c == want)
}

func (r *reader) takeEvent() bool {
	c := r.peek()
	return r.skip(IsEvent(c))
}

func (r *reader) takeVariable() bool {
	c := r.peek()
	return r.skip(c == 'x' || c == 'y' || c == 'z')
}

func (r *reader) takeDigit(lowest byte) bool {
	c := r.peek()
	return r.skip(c >= lowest && c <= '9')
}

func (r *reader) chart() bool {
	c := r.peek()
	if c != '(' && c != '[' {
		return false
	}
	ok := r.state(Document)
	if !ok {
		return false
	}
	return r.at == len(r.text)
}

// state is called where a byte stands that begins a state.
func (r *reader) state(parent int) bool {
	open := r.peek()
	r.at++
	self := len(r.found.States)
	ok := r.stateName(open, parent)
	if !ok {
		return false
	}
	switch open {
	case '(':
		return r.items(self, ')')
	case '[':
		return r.items(self, ']')
	case '<':
		return r.take('>')
	}
	return true
}

func (r *reader) stateName(open byte, parent int) bool {
	c := r.peek()
	if !isName(c) {
		return false
	}
	kind := kindOf(open)
	r.found.States = append(r.found.States, State{Name: c, At: r.at, Kind: kind, Parent: parent})
	r.markParent(parent)
	r.at++
	return true
}

// markParent makes a state compound: only now, with a state among its items, is
// it known not to be plain.
func (r *reader) markParent(parent int) {
	if parent < 0 || parent >= len(r.found.States) {
		return
	}
	if r.found.States[parent].Kind == api.Plain {
		r.found.States[parent].Kind = api.Compound
	}
}

// items reads up to the bracket that closes the state they stand in. It ends, as
// each turn goes past a byte at least, and so does the recursion through state.
func (r *reader) items(self int, closing byte) bool {
	for {
		ok := false
		switch r.peek() {
		case '(', '[', '<', '*':
			ok = r.state(self)
		case ':':
			ok = r.transition(self)
		case '^', '$':
			ok = r.block(self)
		default:
			return r.take(closing)
		}
		if !ok {
			return false
		}
	}
}

// transition is called where a ':' stands.
func (r *reader) transition(self int) bool {
	r.at++
	t := Transition{State: self, Trigger: r.peek()}
	ok := r.trigger()
	if !ok {
		return false
	}
	ok = r.guard(&t.Guard)
	if !ok {
		return false
	}
	acts, ok := r.acts('>')
	if !ok {
		return false
	}
	t.Acts = acts
	t.Target = r.peek()
	r.found.Transitions = append(r.found.Transitions, t)
	return r.target()
}

func (r *reader) trigger() bool {
	c := r.peek()
	r.noteUse(c)
	return r.skip(c == '.' || IsEvent(c) || isName(c))
}

func (r *reader) target() bool {
	c := r.peek()
	r.noteUse(c)
	return r.skip(c == '-' || isName(c))
}

func (r *reader) noteUse(c byte) {
	if isName(c) {
		r.uses = append(r.uses, use{name: c, at: r.at})
	}
}

// guard reads a guard; none is as good.
func (r *reader) guard(g *Guard) bool {
	asks := r.take('?')
	if !asks {
		return true
	}
	g.Variable = r.peek()
	ok := r.takeVariable()
	if !ok {
		return false
	}
	c := r.peek()
	g.Sign = c
	ok = r.skip(c == '<' || c == '=' || c == '>')
	if !ok {
		return false
	}
	g.Digit = r.peekDigit()
	return r.takeDigit('0')
}

// peekDigit tells the next byte's number, which means something only if it is a digit.
func (r *reader) peekDigit() int {
	c := r.peek()
	return int(c) - '0'
}

// block is called where a '^' or a '$' stands.
func (r *reader) block(self int) bool {
	b := Block{State: self, Sign: r.peek()}
	r.at++
	acts, ok := r.acts(';')
	if !ok {
		return false
	}
	b.Acts = acts
	r.found.Blocks = append(r.found.Blocks, b)
	return true
}
