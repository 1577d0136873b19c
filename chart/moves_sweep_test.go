package chart_test

import (
	"math/rand"
	"strings"
	"testing"

	"chart/api"
	"chart/chart"
)

// player makes good charts in which a few events do much, and states of them.
type player struct {
	r     *rand.Rand
	names string
}

func (p *player) pick(of string) string {
	i := p.r.Intn(len(of))
	return of[i : i+1]
}

func (p *player) name() string {
	if p.names == "" {
		return ""
	}
	n := p.names[:1]
	p.names = p.names[1:]
	return n
}

func (p *player) act() string {
	switch p.r.Intn(8) {
	case 0, 1:
		return "#" + p.pick("klm")
	case 2:
		return "!" + p.pick("abcz")
	case 3:
		return "~" + p.pick("abc")
	case 4:
		return "@" + p.pick("abc") + p.pick("112239")
	}
	return p.pick("+-=+-") + p.pick("xyz") + p.pick(digits)
}

func (p *player) acts() string {
	s := ""
	for p.r.Intn(2) == 0 {
		s += p.act()
	}
	return s
}

// transition leaves room for names, which are laid in when all of them are known:
// '%' for any state's, '&' for one that is told when a final state is entered.
func (p *player) transition() string {
	trigger := p.pick("aaaabbbbccz&&")
	guard := ""
	if p.r.Intn(8) == 0 {
		trigger = "."
	}
	if trigger == "." || p.r.Intn(4) == 0 {
		guard = "?" + p.pick("xyz") + p.pick("<=>") + p.pick("0123359")
	}
	return ":" + trigger + guard + p.acts() + ">" + p.pick("%%%%%-")
}

func (p *player) extras() string {
	s := ""
	for p.r.Intn(5) < 2 {
		if p.r.Intn(3) > 0 {
			s += p.transition()
		} else {
			s += p.pick("^$") + p.acts() + ";"
		}
	}
	return s
}

func (p *player) state(depth int, inParallel bool) string {
	kind := p.r.Intn(10)
	n := p.name()
	if n == "" {
		return ""
	}
	switch {
	case kind == 0 && !inParallel:
		return "<" + n + ">"
	case depth == 0 || kind < 3:
		return "(" + n + p.extras() + ")"
	}
	parallel := kind < 6
	s := n + p.extras()
	kids := ""
	for i := 1 + p.r.Intn(3); i > 0; i-- {
		if !parallel && p.r.Intn(4) == 0 {
			if h := p.name(); h != "" {
				s += "*" + h
			}
		}
		kids += p.state(depth-1, parallel) + p.extras()
	}
	if parallel {
		return "[" + s + kids + "]"
	}
	return "(" + s + kids + ")"
}

// chart makes a chart, most often a good one.
func (p *player) chart() string {
	p.names = upper[:16]
	pair := []string{"()", "[]"}[p.r.Intn(3)/2]
	text := pair[:1] + p.name()
	for i := 1 + p.r.Intn(3); i > 0; i-- {
		text += p.state(1+p.r.Intn(3), pair == "[]") + p.extras()
	}
	text += pair[1:]
	used := upper[:16-len(p.names)]
	var told string
	for _, n := range build(strings.NewReplacer("%", "A", "&", "A").Replace(text)).all {
		if n.open == '<' {
			told += n.up.name + n.up.up.name
		}
	}
	for strings.Contains(text, "%") {
		text = strings.Replace(text, "%", p.pick(used), 1)
	}
	for strings.Contains(text, "&") {
		text = strings.Replace(text, "&", p.pick(told+used[:1]), 1)
	}
	return text
}

func (p *player) number() int {
	switch p.r.Intn(4) {
	case 0:
		return 99 - p.r.Intn(4)
	case 1:
		return p.r.Intn(4) - 99
	}
	return p.r.Intn(9) - 4
}

// standing makes a state of a good chart, any one that is legal.
func (p *player) standing(text string) api.State {
	doc := build(text)
	ways := doc.kids[0].ways()
	s := api.State{Active: ways[p.r.Intn(len(ways))]}
	for _, h := range doc.memories {
		names := "-"
		for _, k := range h.up.kids {
			names += k.name
		}
		s.Past += p.pick(names)
	}
	for n := p.r.Intn(9); n > 0; n-- {
		s.Timers += p.pick("abcz") + p.pick("111239")
	}
	s.X, s.Y, s.Z = p.number(), p.number(), p.number()
	return s
}

// holdMoves holds Fire and Wait from one state on against the other telling, and tells
// where they came to.
func holdMoves(t *testing.T, text string, s api.State, event string) (api.State, api.Errno) {
	t.Helper()
	var next, want api.State
	var out, wantOut string
	var e, wantE api.Errno
	if event == "" {
		next, out, e = chart.Wait(text, s)
		want, wantOut, wantE = wantWait(text, s)
	} else {
		next, out, e = chart.Fire(text, s, event)
		want, wantOut, wantE = wantFire(text, s, event)
	}
	if next != want || out != wantOut || e != wantE {
		t.Fatalf("P7, P8: %q, %+v, event %q: %q, want %q", text, s, event, show(next, out, e), show(want, wantOut, wantE))
	}
	if e == api.OK {
		if f := chart.Legal(text, next); f != api.OK {
			t.Fatalf("P5: %q, %+v, event %q: %+v is not legal", text, s, event, next)
		}
	}
	return next, e
}

func TestSweepOfMoves(t *testing.T) {
	p := player{r: rand.New(rand.NewSource(2))}
	good, met, starts := 0, map[api.Errno]int{}, map[api.Errno]int{}
	for i := 0; i < 2000; i++ {
		text := p.chart()
		if e, _ := chart.Check(text); e != api.OK {
			continue
		}
		good++
		s, out, e := chart.Start(text)
		want, wantOut, wantE := wantStart(text)
		if s != want || out != wantOut || e != wantE {
			t.Fatalf("P6: Start(%q) = %q, want %q", text, show(s, out, e), show(want, wantOut, wantE))
		}
		starts[e]++
		for j := 0; j < 12; j++ {
			if e != api.OK || j%4 == 3 {
				s = p.standing(text)
			}
			event := p.pick("aaabbcz ")
			kept := s
			s, e = holdMoves(t, text, s, strings.TrimSpace(event))
			met[e]++
			holdMoves(t, text, kept, "")
		}
	}
	t.Logf("%d good charts, starts %v, moves %v", good, starts, met)
	if good < 1500 || starts[api.OK] < 1000 || starts[api.ErrFuel] < 100 || met[api.OK] < 10000 || met[api.ErrFuel] < 500 {
		t.Errorf("the sweep met only %d good charts, starts %v, moves %v", good, starts, met)
	}
}

// Legal against the other telling: all that is near to a good state.
func TestSweepOfStates(t *testing.T) {
	p := player{r: rand.New(rand.NewSource(3))}
	const letters = "ABCDEFGHIJKLMNOPQabz019-. "
	met := map[api.Errno]int{}
	hold := func(text string, s api.State) {
		t.Helper()
		e := chart.Legal(text, s)
		if want := wantLegal(text, s); e != want {
			t.Fatalf("P5: Legal(%q, %+v) = %d, want %d", text, s, e, want)
		}
		met[e]++
	}
	near := func(s string) string {
		i := p.r.Intn(len(s) + 1)
		switch p.r.Intn(3) {
		case 0:
			return s[:i] + p.pick(letters) + s[i:]
		case 1:
			return s[:i] + s[min(i+1, len(s)):]
		}
		return s[:i] + p.pick(letters) + s[min(i+1, len(s)):]
	}
	for i := 0; i < 1500; i++ {
		text := p.chart()
		if e, _ := chart.Check(text); e != api.OK {
			hold(text, api.State{Active: "A"})
			continue
		}
		for j := 0; j < 8; j++ {
			s := p.standing(text)
			hold(text, s)
			for _, field := range []*string{&s.Active, &s.Past, &s.Timers} {
				kept := *field
				*field = near(kept)
				hold(text, s)
				*field = kept
			}
			s.X += p.r.Intn(3) - 1
			s.Z -= p.r.Intn(3) - 1
			hold(text, s)
		}
	}
	if met[api.OK] < 5000 || met[api.ErrState] < 5000 {
		t.Errorf("the sweep met only %v", met)
	}
}
