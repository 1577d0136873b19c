package chart_test

import (
	"strings"

	"chart/api"
)

// This file reads charts in another way than the program does, so that the two can
// be held against each other: a table says which bytes may come in which mode and
// what mode follows, and one loop goes through the text with the open brackets in a row.

const (
	upper  = "ABCDEFGHIJKLMNOPQRSTUVWXYZ"
	lower  = "abcdefghijklmnopqrstuvwxyz"
	digits = "0123456789"
)

type rule struct{ mode, bytes, next string }

func rules() []rule {
	l := []rule{
		{"chart", "([", "name"},
		{"name", upper, "items"}, {"final", upper, "final end"}, {"final end", ">", "items"}, {"history", upper, "items"},
		{"items", "([", "name"}, {"items", "<", "final"}, {"items", "*", "history"},
		{"items", ":", "trigger"}, {"items", "^$", "block"}, {"items", ")]", "closed"},
		{"trigger", upper + lower + ".", "guard"},
		{"guard", "?", "guard variable"}, {"guard variable", "xyz", "guard sign"}, {"guard sign", "<=>", "guard digit"}, {"guard digit", digits, "acts"},
		{"guard", ">", "target"}, {"acts", ">", "target"}, {"target", upper + "-", "items"},
		{"block", ";", "items"},
	}
	for _, from := range []string{"guard", "acts", "block"} {
		to := from
		if from == "guard" {
			to = "acts"
		}
		l = append(l, rule{from, "!~#", to + " event"}, rule{from, "@", to + " sent"}, rule{from, "+-=", to + " variable"})
	}
	for _, m := range []string{"acts", "block"} {
		l = append(l, rule{m + " event", lower, m}, rule{m + " sent", lower, m + " ticks"}, rule{m + " ticks", digits[1:], m})
		l = append(l, rule{m + " variable", "xyz", m + " digit"}, rule{m + " digit", digits, m})
	}
	return l
}

var table = func() map[string]*[256]string {
	m := map[string]*[256]string{}
	for _, r := range rules() {
		if m[r.mode] == nil {
			m[r.mode] = &[256]string{}
		}
		for i := 0; i < len(r.bytes); i++ {
			m[r.mode][r.bytes[i]] = r.next
		}
	}
	return m
}()

// seen is what the oracle saw of a text: its states, and the names in transitions.
type seen struct {
	at     []int
	open   string // a byte for each state
	parent []int
	names  []int // places of triggers and targets that are NAMEs
	fault  int   // -1: none
}

func see(text string) seen {
	var s seen
	mode, opened := "chart", []int{}
	for i := 0; i < len(text); i++ {
		c := text[i]
		next := ""
		if m := table[mode]; m != nil {
			next = m[c]
		}
		if next == "closed" {
			next = ""
			last := len(opened) - 1
			pair := string([]byte{s.open[opened[last]], c})
			if pair == "()" || pair == "[]" {
				opened = opened[:last]
				next = "items"
				if len(opened) == 0 {
					next = "end"
				}
			}
		}
		if next == "" {
			s.fault = i
			return s
		}
		switch mode {
		case "name", "final", "history":
			s.at = append(s.at, i)
			s.open += text[i-1 : i]
			p := -1
			if len(opened) > 0 {
				p = opened[len(opened)-1]
			}
			s.parent = append(s.parent, p)
			if mode == "name" {
				opened = append(opened, len(s.at)-1)
			}
		case "trigger", "target":
			if strings.IndexByte(upper, c) >= 0 {
				s.names = append(s.names, i)
			}
		}
		mode = next
	}
	s.fault = -1
	if mode != "end" {
		s.fault = len(text)
	}
	return s
}

// within counts the states among the items of state number p whose first byte is one of open.
func (s seen) within(p int, open string) int {
	n := 0
	for i := range s.at {
		if s.parent[i] == p && strings.IndexByte(open, s.open[i]) >= 0 {
			n++
		}
	}
	return n
}

func (s seen) badShape(i int) bool {
	o, childless := s.open[i], s.within(i, "([<") == 0
	return o == '*' && s.open[s.parent[i]] != '(' ||
		o == '<' && s.open[s.parent[i]] == '[' ||
		o == '[' && childless ||
		o == '(' && s.within(i, "*") > 0 && childless
}

func (s seen) kind(i int) int {
	switch {
	case s.open[i] == '<':
		return api.Final
	case s.open[i] == '*':
		return api.History
	case s.open[i] == '[':
		return api.Parallel
	case s.within(i, "([<*") > 0:
		return api.Compound
	}
	return api.Plain
}

// wantCheck says P3 over what the oracle saw.
func wantCheck(text string) (api.Errno, int) {
	if len(text) > 240 {
		return api.ErrLong, 0
	}
	s := see(text)
	if s.fault >= 0 {
		return api.ErrSyntax, s.fault
	}
	if len(s.at) > 16 {
		return api.ErrMany, s.at[16]
	}
	names := ""
	for _, at := range s.at {
		if strings.IndexByte(names, text[at]) >= 0 {
			return api.ErrTwice, at
		}
		names += text[at : at+1]
	}
	for i, at := range s.at {
		if s.badShape(i) {
			return api.ErrShape, at
		}
	}
	for _, at := range s.names {
		if strings.IndexByte(names, text[at]) < 0 {
			return api.ErrName, at
		}
	}
	return api.OK, 0
}

// wantTree says P4 over what the oracle saw.
func wantTree(text string) ([]api.Node, api.Errno) {
	e, _ := wantCheck(text)
	if e != api.OK {
		return nil, e
	}
	s := see(text)
	var l []api.Node
	for i, at := range s.at {
		l = append(l, api.Node{Name: text[at : at+1], Kind: s.kind(i), Parent: s.parent[i]})
	}
	return l, api.OK
}
