package chart_test

import (
	"fmt"
	"slices"
	"strings"

	"chart/api"
)

// This file tells how charts move in another way than the program does, so that the
// two can be held against each other: states are linked nodes that know the ways
// down, sets are maps, acts stay text until they are done, and states are entered
// from the document downwards.

type place struct {
	name          string
	open          byte
	up            *place // nil: this is the document
	kids, pasts   []*place
	moves         []*move
	onIn, onOut   []string // the acts of blocks
	all, memories []*place // of the document: all states, all histories, in order
}

type move struct {
	home                         *place
	trigger, guard, acts, target string
}

// build reads a good chart and answers its document.
func build(text string) *place {
	doc := &place{open: '('}
	in := doc
	cut := func(ends string) string { // the text up to the first of these bytes, which goes too
		i := strings.IndexAny(text, ends)
		s := text[:i]
		text = text[i+1:]
		return s
	}
	for text != "" {
		c := text[0]
		text = text[1:]
		switch c {
		case '(', '[', '<', '*':
			n := &place{name: text[:1], open: c, up: in}
			text = text[1:]
			doc.all = append(doc.all, n)
			if c == '*' {
				doc.memories = append(doc.memories, n)
				in.pasts = append(in.pasts, n)
				continue
			}
			in.kids = append(in.kids, n)
			in = n
		case ')', ']', '>':
			in = in.up
		case '^':
			in.onIn = append(in.onIn, cut(";"))
		case '$':
			in.onOut = append(in.onOut, cut(";"))
		case ':':
			m := &move{home: in, trigger: text[:1]}
			text = text[1:]
			if text[0] == '?' {
				m.guard, text = text[1:4], text[4:]
			}
			m.acts = cut(">")
			m.target, text = text[:1], text[1:]
			in.moves = append(in.moves, m)
		}
	}
	return doc
}

func (p *place) find(name string) *place {
	for _, n := range p.all {
		if n.name == name {
			return n
		}
	}
	return nil
}

func (p *place) isCompound() bool { return p.open == '(' && len(p.kids) > 0 }

// ups are the states above, from the inside out.
func (p *place) ups() []*place {
	var l []*place
	for u := p.up; u != nil; u = u.up {
		l = append(l, u)
	}
	return l
}

// ways are all texts that Active may be, as far as this state and those in it go.
func (p *place) ways() []string {
	l := []string{p.name}
	if p.open == '[' {
		for _, k := range p.kids {
			var longer []string
			for _, head := range l {
				for _, tail := range k.ways() {
					longer = append(longer, head+tail)
				}
			}
			l = longer
		}
	} else if len(p.kids) > 0 {
		l = nil
		for _, k := range p.kids {
			for _, tail := range k.ways() {
				l = append(l, p.name+tail)
			}
		}
	}
	return l
}

// wantLegal says P5 over all that Active may be.
func wantLegal(text string, s api.State) api.Errno {
	if e, _ := wantCheck(text); e != api.OK {
		return e
	}
	doc := build(text)
	ok := slices.Contains(doc.kids[0].ways(), s.Active) && len(s.Past) == len(doc.memories) && len(s.Timers) <= 16 && len(s.Timers)%2 == 0
	for i := 0; ok && i < len(s.Past); i++ {
		names := "-"
		for _, k := range doc.memories[i].up.kids {
			names += k.name
		}
		ok = strings.Contains(names, s.Past[i:i+1])
	}
	for i := 0; ok && i < len(s.Timers); i += 2 {
		ok = strings.Contains(lower, s.Timers[i:i+1]) && strings.Contains("123456789", s.Timers[i+1:i+2])
	}
	for _, n := range []int{s.X, s.Y, s.Z} {
		ok = ok && n >= -99 && n <= 99
	}
	if !ok {
		return api.ErrState
	}
	return api.OK
}

type mover struct {
	doc    *place
	active map[*place]bool
	past   map[*place]string
	timers []string
	vars   map[string]int
	queue  []string
	out    string
}

func newMover(text string, s api.State) *mover {
	m := &mover{doc: build(text), active: map[*place]bool{}, past: map[*place]string{}, vars: map[string]int{"x": s.X, "y": s.Y, "z": s.Z}}
	m.active[m.doc] = true
	for _, c := range s.Active {
		m.active[m.doc.find(string(c))] = true
	}
	for i, h := range m.doc.memories {
		m.past[h] = "-"
		if s.Past != "" {
			m.past[h] = s.Past[i : i+1]
		}
	}
	for i := 0; i < len(s.Timers); i += 2 {
		m.timers = append(m.timers, s.Timers[i:i+2])
	}
	return m
}

func (m *mover) state() api.State {
	s := api.State{Timers: strings.Join(m.timers, ""), X: m.vars["x"], Y: m.vars["y"], Z: m.vars["z"]}
	for _, n := range m.doc.all {
		if m.active[n] {
			s.Active += n.name
		}
	}
	for _, h := range m.doc.memories {
		s.Past += m.past[h]
	}
	return s
}

func (m *mover) acts(text string) {
	for text != "" {
		sign, what := text[0], text[1:2]
		n := 0
		if strings.IndexByte("@+-=", sign) >= 0 {
			fmt.Sscan(text[2:3], &n)
			text = text[3:]
		} else {
			text = text[2:]
		}
		value := m.vars[what]
		switch sign {
		case '!':
			m.queue = append(m.queue, what)
			continue
		case '#':
			m.out += what
			continue
		case '~':
			m.timers = slices.DeleteFunc(m.timers, func(s string) bool { return s[:1] == what })
			continue
		case '@':
			if len(m.timers) < 8 {
				m.timers = append(m.timers, fmt.Sprint(what, n))
				continue
			}
			value = 100
		case '+':
			value += n
		case '-':
			value -= n
		case '=':
			value = n
		}
		if value < -99 || value > 99 {
			m.queue = append(m.queue, "z")
			return
		}
		m.vars[what] = value
	}
}

func (m *mover) holds(guard string) bool {
	if guard == "" {
		return true
	}
	v, d := m.vars[guard[:1]], int(guard[2]-'0')
	return map[byte]bool{'<': v < d, '=': v == d, '>': v > d}[guard[1]]
}

func (m *mover) leaves(t *move) map[*place]bool {
	left := map[*place]bool{}
	if t.target == "-" {
		return left
	}
	over := m.doc.find(t.target).ups()
	var domain *place
	for _, u := range t.home.ups() {
		if (u.isCompound() || u.up == nil) && slices.Contains(over, u) {
			domain = u
			break
		}
	}
	for _, n := range m.doc.all {
		if m.active[n] && slices.Contains(n.ups(), domain) {
			left[n] = true
		}
	}
	return left
}

func (m *mover) clash(t, u *move) bool {
	other := m.leaves(u)
	for n := range m.leaves(t) {
		if other[n] {
			return true
		}
	}
	return false
}

func (m *mover) first(n *place, trigger string) *move {
	for ; n.up != nil; n = n.up {
		for _, t := range n.moves {
			if t.trigger == trigger && m.holds(t.guard) {
				return t
			}
		}
	}
	return nil
}

func (m *mover) choose(trigger string) []*move {
	var found, list []*move
	for _, n := range m.doc.all {
		if !m.active[n] || len(n.kids) > 0 {
			continue
		}
		if t := m.first(n, trigger); t != nil && !slices.Contains(found, t) {
			found = append(found, t)
		}
	}
next:
	for _, t := range found {
		var goes []*move
		for _, u := range list {
			if !m.clash(t, u) {
				continue
			}
			if !slices.Contains(t.home.ups(), u.home) {
				continue next
			}
			goes = append(goes, u)
		}
		list = slices.DeleteFunc(list, func(u *move) bool { return slices.Contains(goes, u) })
		list = append(list, t)
	}
	return list
}

func (m *mover) micro(list []*move) {
	left := map[*place]bool{}
	for _, t := range list {
		for n := range m.leaves(t) {
			left[n] = true
		}
	}
	for _, h := range m.doc.memories {
		if left[h.up] {
			for _, k := range h.up.kids {
				if m.active[k] {
					m.past[h] = k.name
				}
			}
		}
	}
	for _, n := range slices.Backward(m.doc.all) {
		if left[n] {
			for _, b := range n.onOut {
				m.acts(b)
			}
			delete(m.active, n)
		}
	}
	towards := map[*place]bool{}
	for _, t := range list {
		m.acts(t.acts)
	}
	for _, t := range list {
		if t.target == "-" {
			continue
		}
		goal := m.doc.find(t.target)
		if goal.open == '*' {
			if m.past[goal] == "-" {
				goal = goal.up.kids[0]
			} else {
				goal = m.doc.find(m.past[goal])
			}
		}
		towards[goal] = true
		for _, u := range goal.ups() {
			towards[u] = true
		}
	}
	m.fill(m.doc, towards)
}

// fill enters what must be active below an active state.
func (m *mover) fill(n *place, towards map[*place]bool) {
	var go2 []*place
	for _, k := range n.kids {
		if n.open == '[' || m.active[k] {
			go2 = append(go2, k)
		}
	}
	if len(go2) == 0 && len(n.kids) > 0 {
		go2 = n.kids[:1]
		for _, k := range n.kids {
			if towards[k] {
				go2 = []*place{k}
			}
		}
	}
	for _, k := range go2 {
		if !m.active[k] {
			m.goIn(k)
		}
		m.fill(k, towards)
	}
}

func (m *mover) goIn(n *place) {
	m.active[n] = true
	for _, b := range n.onIn {
		m.acts(b)
	}
	if n.open != '<' {
		return
	}
	m.queue = append(m.queue, n.up.name)
	if over := n.up.up; over.open == '[' && m.atEnd(over) {
		m.queue = append(m.queue, over.name)
	}
}

func (m *mover) atEnd(n *place) bool {
	ends := 0
	for _, k := range n.kids {
		if n.open == '(' && k.open == '<' && m.active[k] {
			return true
		}
		if n.open == '[' && m.atEnd(k) {
			ends++
		}
	}
	return n.open == '[' && ends == len(n.kids)
}

// settle does up to so many rounds, and tells whether nothing is left to do.
func (m *mover) settle(fuel int) bool {
	list := m.choose(".")
	switch {
	case len(list) == 0 && len(m.queue) == 0:
		return true
	case fuel == 0:
		return false
	case len(list) == 0:
		list = m.choose(m.queue[0])
		m.queue = m.queue[1:]
	}
	m.micro(list)
	return m.settle(fuel - 1)
}

func wantStart(text string) (api.State, string, api.Errno) {
	if e, _ := wantCheck(text); e != api.OK {
		return api.State{}, "", e
	}
	m := newMover(text, api.State{})
	m.fill(m.doc, nil)
	if !m.settle(30) {
		return api.State{}, "", api.ErrFuel
	}
	return m.state(), m.out, api.OK
}

func wantFire(text string, s api.State, event string) (api.State, string, api.Errno) {
	if e := wantLegal(text, s); e != api.OK {
		return api.State{}, "", e
	}
	if len(event) != 1 || !strings.Contains(lower, event) {
		return api.State{}, "", api.ErrEvent
	}
	return fired(text, s, event)
}

func fired(text string, s api.State, event string) (api.State, string, api.Errno) {
	m := newMover(text, s)
	m.micro(m.choose(event))
	if !m.settle(29) {
		return api.State{}, "", api.ErrFuel
	}
	return m.state(), m.out, api.OK
}

func wantWait(text string, s api.State) (api.State, string, api.Errno) {
	if e := wantLegal(text, s); e != api.OK {
		return api.State{}, "", e
	}
	lessen := strings.NewReplacer("1", "0", "2", "1", "3", "2", "4", "3", "5", "4", "6", "5", "7", "6", "8", "7", "9", "8")
	s.Timers = lessen.Replace(s.Timers)
	out := ""
	for {
		i := strings.IndexByte(s.Timers, '0')
		if i < 0 {
			return s, out, api.OK
		}
		event := s.Timers[i-1 : i]
		s.Timers = s.Timers[:i-1] + s.Timers[i+1:]
		if next, o, e := fired(text, s, event); e == api.OK {
			s, out = next, out+o
		}
	}
}
