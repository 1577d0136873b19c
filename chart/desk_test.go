package chart_test

import (
	"fmt"
	"strconv"
	"strings"
	"testing"

	"chart/api"
	"chart/chart"
)

// kl is a chart that puts k out on its way to B, and l on its way back.
const kl = "(R(A:a#k>B)(B:b#l>A))"

var kinds = map[string]int{"send": api.Send, "tick": api.Tick, "read": api.Read, "poll": api.Poll}

// asking reads a request: "send ab -1", "tick", "read 3", "poll 0".
func asking(words []string) api.Request {
	r := api.Request{Kind: kinds[words[0]]}
	if r.Kind == api.Send {
		r.Events = words[1]
	}
	if r.Kind != api.Tick {
		r.At, _ = strconv.Atoi(words[len(words)-1])
	}
	return r
}

// showReply tells a reply in one line, without what is empty or nought.
func showReply(r api.Reply) string {
	l := fmt.Sprintf("done, version %d", r.Version)
	if r.Err != api.OK {
		l = fmt.Sprintf("refused %d, version %d", r.Err, r.Version)
	}
	if r.Index != 0 {
		l += fmt.Sprintf(", index %d", r.Index)
	}
	if r.Next != 0 {
		l += fmt.Sprintf(", next %d", r.Next)
	}
	if s := show(r.State, "", api.OK); s != "" {
		l += ", state " + s
	}
	if r.Text != "" {
		l += ", text " + r.Text
	}
	return l
}

func showStep(r api.Reply, done bool, e api.Errno) string {
	switch {
	case e != api.OK && (done || r != (api.Reply{})):
		return fmt.Sprintf("error %d beside %+v, %v", e, r, done)
	case e != api.OK:
		return fmt.Sprintf("error %d", e)
	case !done && r != (api.Reply{}):
		return fmt.Sprintf("not done, but %+v", r)
	case !done:
		return "goes"
	}
	return showReply(r)
}

func showAsk(e api.Errno) string {
	if e != api.OK {
		return fmt.Sprintf("error %d", e)
	}
	return "stands"
}

// perform does one thing to a service and tells what it answered: "kept" asks for the
// versions, "2" is a step of client 2, "2 read -1" is its request.
func perform(x *chart.Service, deed string) string {
	if deed == "kept" {
		return strings.Trim(fmt.Sprint(x.Versions()), "[]")
	}
	words := strings.Fields(deed)
	u, _ := strconv.Atoi(words[0])
	if len(words) == 1 {
		return showStep(x.Step(u))
	}
	return showAsk(x.Ask(u, asking(words[1:])))
}

func open(t *testing.T, text string, clients int) *chart.Service {
	t.Helper()
	x, e := chart.New(text, clients)
	if x == nil || e != api.OK {
		t.Fatalf("P9: New(%q, %d) = %v, %d", text, clients, x, e)
	}
	return x
}

// play does things to a service: what is done and what is wanted, by turns.
func play(t *testing.T, x *chart.Service, rows ...string) {
	t.Helper()
	for i := 0; i+1 < len(rows); i += 2 {
		if got := perform(x, rows[i]); got != rows[i+1] {
			t.Fatalf("row %d, %s: %q, want %q", i/2, rows[i], got, rows[i+1])
		}
	}
}

// alone asks for a request and steps until it is done, with nobody else at work.
func alone(t *testing.T, x *chart.Service, u int, request, want string) {
	t.Helper()
	play(t, x, fmt.Sprintf("%d %s", u, request), "stands")
	steps := 1
	switch words := strings.Fields(request); words[0] {
	case "send":
		steps = 1 + len(words[1])
	case "tick":
		steps = 2
	case "read":
		steps = 3
	}
	for i := 1; i <= steps; i++ {
		got := perform(x, strconv.Itoa(u))
		if got == "goes" && i < steps {
			continue
		}
		if got != want {
			t.Fatalf("%s: %q at step %d, want %q", request, got, i, want)
		}
		return
	}
}
