package outline

import "chart/api"

// IsEvent tells whether a byte is an EVENT.
func IsEvent(c byte) bool {
	return c >= 'a' && c <= 'z'
}

func isName(c byte) bool {
	return c >= 'A' && c <= 'Z'
}

// kindOf takes round brackets for those of a plain state until a state is found in them.
func kindOf(open byte) int {
	switch open {
	case '[':
		return api.Parallel
	case '<':
		return api.Final
	case '*':
		return api.History
	}
	return api.Plain
}
