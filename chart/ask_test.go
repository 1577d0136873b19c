package chart_test

import (
	"fmt"
	"math"
	"strings"
	"testing"

	"chart/api"
)

func hasOnly(text, of string) bool { return strings.Trim(text, of) == "" }

// wantRequest tells P10's words in one condition.
func wantRequest(r api.Request) bool {
	return r.Kind == 1 && r.Events != "" && len(r.Events) < 5 && hasOnly(r.Events, "abcdefghijklmnopqrstuvwxyz") && r.At > -2 ||
		r.Kind == 2 && r.Events == "" && r.At == 0 ||
		r.Kind == 3 && r.Events == "" && r.At > -2 ||
		r.Kind == 4 && r.Events == "" && r.At > -1
}

func TestRequests(t *testing.T) {
	ats := []int{math.MinInt, -1 << 32, -3, -2, -1, 0, 1, 2, 3, 1 << 32, math.MaxInt}
	events := []string{
		"", "a", "z", "az", "abc", "aaaa", "zzzz", "aaaaa", "abcdefgh", strings.Repeat("a", 256), strings.Repeat("a", 1<<16+1),
		"A", "aA", "Aa", "a b", " ", "a ", "-", "a.", "`", "{", "aaa{", "é", "aaé", "a\x00", "\x00", "\xff", "1",
	}
	met := map[bool]int{}
	for _, kind := range []int{math.MinInt, -4, -1, 0, 1, 2, 3, 4, 5, 6, 1<<32 + 1, 1<<8 + 1, math.MaxInt} {
		for _, e := range events {
			for _, at := range ats {
				x := open(t, kl, 1)
				r := api.Request{Kind: kind, Events: e, At: at}
				want, next := api.ErrRequest, api.ErrIdle
				if wantRequest(r) {
					want, next = api.OK, api.OK
				}
				if got := x.Ask(0, r); got != want {
					t.Errorf("P10: Ask(0, %d %.10q %d) = %d, want %d", kind, e, at, got, want)
				}
				if _, _, got := x.Step(0); got != next {
					t.Errorf("P11: Step(0) behind Ask(0, %d %.10q %d) = %d, want %d", kind, e, at, got, next)
				}
				met[want == api.OK]++
			}
		}
	}
	if met[true] < 50 || met[false] < 1000 {
		t.Errorf("only %v were met", met)
	}
}

func TestEveryByteOfABatch(t *testing.T) {
	for b := 0; b < 256; b++ {
		for at := 0; at < 4; at++ {
			events := []byte("aaaa")
			events[at] = byte(b)
			want := api.ErrRequest
			if b >= 'a' && b <= 'z' {
				want = api.OK
			}
			x := open(t, kl, 1)
			if e := x.Ask(0, api.Request{Kind: api.Send, Events: string(events)}); e != want {
				t.Errorf("P10: Ask of %q = %d, want %d", events, e, want)
			}
		}
	}
}

// A client is busy from Ask to the step with which its request is done.
func TestBusy(t *testing.T) {
	for _, c := range []struct {
		request string
		steps   int
	}{{"send a -1", 2}, {"send abab 0", 5}, {"send a 7", 2}, {"tick", 2}, {"read -1", 3}, {"read 9", 1}, {"poll 0", 1}, {"poll 9", 1}} {
		x := open(t, kl, 2)
		play(t, x, "1 "+c.request, "stands")
		for i := 0; i < c.steps; i++ {
			for _, other := range []string{"send b -1", "tick", "read 0", "poll 0", "read -2", "send A 0"} {
				play(t, x, "1 "+other, "error 11")
			}
			_, done, e := x.Step(1)
			if e != api.OK || done != (i == c.steps-1) {
				t.Fatalf("P11: %s: step %d = %v, %d", c.request, i, done, e)
			}
		}
		play(t, x, "1", "error 13", "0", "error 13", "1 read -2", "error 12", "1", "error 13", "1 "+c.request, "stands")
	}
}

// Where several apply: ErrClient, then ErrBusy, then ErrRequest.
func TestOrderOfAskErrors(t *testing.T) {
	x := open(t, kl, 1)
	play(t, x,
		"1 read -2", "error 10",
		"-1 read -2", "error 10",
		"0 read -2", "error 12",
		"0 read -1", "stands",
		"0 read -2", "error 11",
		"0 read -1", "error 11",
		"1 read -2", "error 10",
		"1", "error 10",
	)
}

// An Ask that is refused changes nothing: the request that stood goes on.
func TestRefusedAskChangesNothing(t *testing.T) {
	x := open(t, kl, 2)
	play(t, x,
		"0 send ab -1", "stands",
		"0", "goes",
		"0 read -1", "error 11",
		"0", "goes",
		"0 tick", "error 11",
		"7 tick", "error 10",
		"1 send abcde 0", "error 12",
		"1", "error 13",
		"0", "done, version 1, index 2, text kl",
		"0", "error 13",
		"kept", "0 1",
	)
}

// All that a client has asked and was told goes when the next request is laid down.
func TestRequestsStandAlone(t *testing.T) {
	requests := map[string]string{
		"send ab -1": "done, version %d, index 2, text kl",
		"send ab 0":  "refused 14, version %d",
		"tick":       "done, version %d",
		"read -1":    "done, version %d, state RA",
		"poll 0":     "done, version %d, next 2, text kl",
	}
	makes := map[string]int{"send ab -1": 1, "tick": 1}
	for first, wantFirst := range requests {
		for second, wantSecond := range requests {
			x := open(t, kl, 1)
			alone(t, x, 0, "send ab 0", "done, version 1, index 2, text kl")
			n := 1 + makes[first]
			alone(t, x, 0, first, fill(wantFirst, n))
			n += makes[second]
			want := fill(wantSecond, n)
			if second == "poll 0" && first == "send ab -1" {
				want = fill("done, version %d, next 4, text klkl", n)
			}
			alone(t, x, 0, second, want)
		}
	}
}

func fill(form string, n int) string { return fmt.Sprintf(form, n) }
