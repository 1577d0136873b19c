package service

import (
	"chart/api"
	"chart/outline"
	"chart/stand"
)

// nothing is the kind of a task of a client that asks for nothing.
const nothing = 0

// task is a client's request and how far it has come.
type task struct {
	kind   int
	events string
	at     int

	drawn  bool // whether it has a ticket
	ticket int

	// Of a Send: how many events were fired, and what came of them. It stands here
	// until the last one, so that nobody sees it.
	fired int
	now   stand.Stand
	out   string

	// Of a Read: how many steps were done, and the number of the version it has pinned.
	steps  int
	pinned int
}

// newTask copies the events, as what a caller hands in may be part of a text of any
// length that would be held on to with it.
func newTask(r api.Request) task {
	events := string([]byte(r.Events))
	return task{kind: r.Kind, events: events, at: r.At}
}

func isRequest(r api.Request) bool {
	switch r.Kind {
	case api.Send:
		return isBatch(r.Events) && r.At >= -1
	case api.Tick:
		return r.Events == "" && r.At == 0
	case api.Read:
		return r.Events == "" && r.At >= -1
	case api.Poll:
		return r.Events == "" && r.At >= 0
	}
	return false
}

func isBatch(events string) bool {
	if len(events) < 1 || len(events) > api.MaxBatch {
		return false
	}
	for i := 0; i < len(events); i++ {
		if !outline.IsEvent(events[i]) {
			return false
		}
	}
	return true
}
