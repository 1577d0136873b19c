package outline

// acts reads up to the byte that stands behind them. It ends, as each turn goes
// past a byte at least.
func (r *reader) acts(closing byte) ([]Act, bool) {
	var acts []Act
	for {
		closed := r.take(closing)
		if closed {
			return acts, true
		}
		a := Act{Sign: r.peek()}
		ok := r.act(&a)
		if !ok {
			return nil, false
		}
		acts = append(acts, a)
	}
}

// act reads an act, whose sign is told already, but not gone past.
func (r *reader) act(a *Act) bool {
	switch a.Sign {
	case '!', '~', '#':
		return r.eventAct(a)
	case '@':
		return r.timerAct(a)
	case '+', '-', '=':
		return r.variableAct(a)
	}
	return false
}

func (r *reader) eventAct(a *Act) bool {
	r.at++
	a.Letter = r.peek()
	return r.takeEvent()
}

func (r *reader) timerAct(a *Act) bool {
	ok := r.eventAct(a)
	if !ok {
		return false
	}
	a.Digit = r.peekDigit()
	return r.takeDigit('1')
}

func (r *reader) variableAct(a *Act) bool {
	r.at++
	a.Letter = r.peek()
	ok := r.takeVariable()
	if !ok {
		return false
	}
	a.Digit = r.peekDigit()
	return r.takeDigit('0')
}
