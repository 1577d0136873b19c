package stand

import (
	"chart/api"
	"chart/outline"
)

func areTimers(timers string) bool {
	if len(timers)%2 != 0 || len(timers) > 2*api.MaxTimers {
		return false
	}
	for i := 0; i+1 < len(timers); i += 2 {
		if !outline.IsEvent(timers[i]) || timers[i+1] < '1' || timers[i+1] > '9' {
			return false
		}
	}
	return true
}

// Send lays an event down, to come in so many ticks. It answers false if there is no
// room for it.
func (s *Stand) Send(event byte, ticks int) bool {
	if len(s.timers) >= 2*api.MaxTimers {
		return false
	}
	s.timers += string([]byte{event, byte('0' + ticks)})
	return true
}

// CallBack takes away all that was sent of an event.
func (s *Stand) CallBack(event byte) {
	var kept []byte
	for i := 0; i+1 < len(s.timers); i += 2 {
		if s.timers[i] != event {
			kept = append(kept, s.timers[i], s.timers[i+1])
		}
	}
	s.timers = string(kept)
}

// Tick brings all that was sent nearer by one tick.
func (s *Stand) Tick() {
	var nearer []byte
	for i := 0; i+1 < len(s.timers); i += 2 {
		nearer = append(nearer, s.timers[i], s.timers[i+1]-1)
	}
	s.timers = string(nearer)
}

// TakeDue takes out the first event that comes now. It answers false if there is none.
func (s *Stand) TakeDue() (byte, bool) {
	for i := 0; i+1 < len(s.timers); i += 2 {
		if s.timers[i+1] == '0' {
			event := s.timers[i]
			s.timers = s.timers[:i] + s.timers[i+2:]
			return event, true
		}
	}
	return 0, false
}
