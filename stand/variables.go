package stand

import "chart/api"

func inBounds(n int) bool {
	return n >= -api.MaxVar && n <= api.MaxVar
}

// Variable tells a variable's number.
func (s *Stand) Variable(name byte) int {
	switch name {
	case 'x':
		return s.x
	case 'y':
		return s.y
	}
	return s.z
}

// SetVariable changes a variable. It answers false if the number is out of bounds.
func (s *Stand) SetVariable(name byte, n int) bool {
	if !inBounds(n) {
		return false
	}
	switch name {
	case 'x':
		s.x = n
	case 'y':
		s.y = n
	default:
		s.z = n
	}
	return true
}
