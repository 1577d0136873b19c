package service

import (
	"chart/api"
	"chart/stand"
)

// version is how the chart stood, and how many requests have it pinned.
type version struct {
	number int
	now    stand.Stand
	pins   int
}

// shelf has the versions that are kept, rising.
type shelf struct {
	made int // how many versions there have been so far
	kept []version
}

// latest tells the number of the latest version.
func (s *shelf) latest() int {
	return s.made - 1
}

// last tells how the chart stands in the latest version.
func (s *shelf) last() stand.Stand {
	if len(s.kept) == 0 {
		return stand.Stand{}
	}
	return s.kept[len(s.kept)-1].now
}

func (s *shelf) add(now stand.Stand) {
	s.kept = append(s.kept, version{number: s.made, now: now})
	s.made++
	s.tidy()
}

// tidy lets go of all versions that need not be kept. It makes a new list, as the old
// one would hold on to them.
func (s *shelf) tidy() {
	var kept []version
	for i := 0; i < len(s.kept); i++ {
		v := s.kept[i]
		if v.pins > 0 || v.number >= s.made-api.Window {
			kept = append(kept, v)
		}
	}
	s.kept = kept
}

// pin holds on to a version. It answers false if that is not kept.
func (s *shelf) pin(number int) bool {
	for i := 0; i < len(s.kept); i++ {
		if s.kept[i].number == number {
			s.kept[i].pins++
			return true
		}
	}
	return false
}

// release takes one pin from a version that has one, and tells how the chart stood in it.
func (s *shelf) release(number int) stand.Stand {
	var now stand.Stand
	for i := 0; i < len(s.kept); i++ {
		if s.kept[i].number == number {
			s.kept[i].pins--
			now = s.kept[i].now
		}
	}
	s.tidy()
	return now
}

func (s *shelf) numbers() []int {
	numbers := make([]int, len(s.kept))
	for i := 0; i < len(numbers); i++ {
		numbers[i] = s.kept[i].number
	}
	return numbers
}
