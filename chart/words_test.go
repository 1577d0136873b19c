package chart_test

import (
	"slices"
	"testing"

	"chart/api"
)

func TestNumbersOfWords(t *testing.T) {
	errors := []api.Errno{
		api.OK, api.ErrLong, api.ErrSyntax, api.ErrMany, api.ErrTwice, api.ErrShape, api.ErrName, api.ErrState,
		api.ErrEvent, api.ErrFuel, api.ErrClient, api.ErrBusy, api.ErrRequest, api.ErrIdle, api.ErrVersion, api.ErrGone,
	}
	for i, e := range errors {
		if int(e) != i {
			t.Errorf("error number %d is %d", i, e)
		}
	}
	bounds := []int{api.MaxText, api.MaxStates, api.MaxTimers, api.MaxVar, api.Fuel, api.MaxClients, api.MaxBatch, api.Window, api.MaxLog, api.MaxPoll}
	if !slices.Equal(bounds, []int{240, 16, 8, 99, 30, 6, 4, 4, 24, 8}) {
		t.Errorf("the bounds are %v", bounds)
	}
	kinds := []int{api.Plain, api.Compound, api.Parallel, api.Final, api.History}
	if !slices.Equal(kinds, []int{1, 2, 3, 4, 5}) {
		t.Errorf("the kinds are %v", kinds)
	}
}
