package service

import "chart/api"

// journal is the log: what was put out, of which the end is kept.
type journal struct {
	joined int // how many bytes have joined so far
	tail   string
}

// join copies what is kept, as the rest would be held on to with it.
func (l *journal) join(text string) {
	l.joined += len(text)
	all := l.tail + text
	first := 0
	if len(all) > api.MaxLog {
		first = len(all) - api.MaxLog
	}
	l.tail = string([]byte(all[first:]))
}

// tell tells the bytes from number at on, as many as a Poll may tell, or why it can't.
func (l *journal) tell(at int) (string, api.Errno) {
	if at > l.joined {
		return "", api.ErrVersion
	}
	first := l.joined - len(l.tail)
	if at < first {
		return "", api.ErrGone
	}
	rest := l.tail[at-first:]
	if len(rest) > api.MaxPoll {
		rest = rest[:api.MaxPoll]
	}
	return rest, api.OK
}
