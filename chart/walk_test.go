package chart_test

import (
	"fmt"
	"testing"

	"chart/api"
	"chart/chart"
)

// show tells an answer in one line, without what is empty or nought.
func show(s api.State, out string, e api.Errno) string {
	l := s.Active
	for _, f := range []struct{ word, text string }{{"past", s.Past}, {"timers", s.Timers}, {"put", out}} {
		if f.text != "" {
			l += " " + f.word + " " + f.text
		}
	}
	for i, n := range []int{s.X, s.Y, s.Z} {
		if n != 0 {
			l += fmt.Sprintf(" %c%d", 'x'+i, n)
		}
	}
	if e != api.OK {
		l += fmt.Sprintf(" error %d", e)
	}
	return l
}

// walk goes from one state of a chart to the next: what is done (an event, or "tick")
// and what is wanted, by turns. Behind an error it goes on from where it was.
func walk(t *testing.T, text string, s api.State, rows ...string) {
	t.Helper()
	for i := 0; i+1 < len(rows); i += 2 {
		promise, next, out, e := "P8", api.State{}, "", api.OK
		if rows[i] == "tick" {
			next, out, e = chart.Wait(text, s)
		} else {
			promise = "P7"
			next, out, e = chart.Fire(text, s, rows[i])
		}
		if got := show(next, out, e); got != rows[i+1] {
			t.Fatalf("%s: %s: %s, then %s: %q, want %q", promise, text, show(s, "", 0), rows[i], got, rows[i+1])
		}
		if e != api.OK {
			continue
		}
		if f := chart.Legal(text, next); f != api.OK {
			t.Fatalf("P5: %s: Legal(%+v) = %d behind %s", text, next, f, rows[i])
		}
		s = next
	}
}

// begin starts a chart, looks at what comes out, and goes on as walk does.
func begin(t *testing.T, text, want string, rows ...string) {
	t.Helper()
	s, out, e := chart.Start(text)
	if got := show(s, out, e); got != want {
		t.Fatalf("P6: Start(%q) = %q, want %q", text, got, want)
	}
	if e != api.OK {
		return
	}
	if f := chart.Legal(text, s); f != api.OK {
		t.Fatalf("P5: %s: Legal(%+v) = %d behind Start", text, s, f)
	}
	walk(t, text, s, rows...)
}
