package chart_test

import (
	"cmp"
	"slices"
	"testing"

	"chart/api"
	"chart/chart"
)

// deed is a request from Ask to the reply, with the times of what happened to it.
type deed struct {
	r                   api.Request
	asked, first, ended int // first: the step that draws a ticket or takes a version
	reply               api.Reply
}

func (d *deed) makes() bool { return d.r.Kind == api.Send || d.r.Kind == api.Tick }

// house is a service whose requests are written down.
type house struct {
	t    *testing.T
	text string
	x    *chart.Service
	now  int
	at   []*deed // by client; nil: none
	done []*deed
}

func newHouse(t *testing.T, text string, clients int) *house {
	t.Helper()
	return &house{t: t, text: text, x: open(t, text, clients), at: make([]*deed, clients)}
}

func (h *house) ask(u int, r api.Request) api.Errno {
	h.now++
	e := h.x.Ask(u, r)
	if e == api.OK {
		h.at[u] = &deed{r: r, asked: h.now}
	}
	return e
}

func (h *house) step(u int) (api.Reply, bool, api.Errno) {
	h.now++
	reply, done, e := h.x.Step(u)
	if e != api.OK {
		return reply, done, e
	}
	d := h.at[u]
	if d.first == 0 {
		d.first = h.now
	}
	if done {
		d.ended, d.reply = h.now, reply
		h.done = append(h.done, d)
		h.at[u] = nil
	}
	return reply, done, e
}

// row sets the requests that are done in the row of P12: Sends and Ticks by their
// tickets, a Read behind the one that made its version, a Poll where it was done.
// Between two makers of versions all that asks for no version of its own stands in
// the order of time.
func (h *house) row() []*deed {
	var makers, rest []*deed
	for _, d := range h.done {
		if d.makes() {
			makers = append(makers, d)
		} else {
			rest = append(rest, d)
		}
	}
	slices.SortFunc(makers, func(a, b *deed) int { return cmp.Compare(a.first, b.first) })
	time := func(d *deed) int {
		if d.r.Kind == api.Read {
			return d.first
		}
		return d.ended
	}
	slices.SortStableFunc(rest, func(a, b *deed) int { return cmp.Compare(time(a), time(b)) })
	var row []*deed
	for _, d := range makers {
		for len(rest) > 0 && time(rest[0]) < d.ended {
			row = append(row, rest[0])
			rest = rest[1:]
		}
		row = append(row, d)
	}
	return append(row, rest...)
}

// hold looks whether the row is one of P12: each one stands behind all that were done
// before it was asked, and if the requests are done one behind the other, each at once,
// all are told what they were told. It is called when all requests are done.
func (h *house) hold() {
	h.t.Helper()
	row := h.row()
	for i, d := range row {
		for _, later := range row[i+1:] {
			if later.ended < d.asked {
				h.t.Fatalf("P12: %s: %+v stands ahead of %+v", h.text, *d, *later)
			}
		}
	}
	s, log, _ := wantStart(h.text)
	states := []api.State{s}
	for i, d := range row {
		want := api.Reply{}
		switch d.r.Kind {
		case api.Read:
			want = readAtOnce(states, row[:i], d)
		case api.Poll:
			want = pollAll(log, d.r.At)
		default:
			next, reply, _ := atOnce(h.text, states, d.r)
			want = reply
			if reply.Err == api.OK {
				states = append(states, next)
				log += reply.Text
			}
		}
		if d.r.Kind != api.Read || want.Err != api.OK {
			want.Version = len(states) - 1
		}
		if d.reply != want {
			h.t.Fatalf("P12: %s: number %d of the row, %+v, was told %q, want %q", h.text, i, d.r, showReply(d.reply), showReply(want))
		}
	}
}

// readAtOnce tells what a Read gets at its place in the row. Versions that a Read ahead
// of it has pinned and that is not done yet count as kept.
func readAtOnce(states []api.State, ahead []*deed, d *deed) api.Reply {
	v, latest := d.r.At, len(states)-1
	if v == -1 {
		v = latest
	}
	if v > latest {
		return api.Reply{Err: api.ErrVersion}
	}
	kept := v > latest-4
	for _, o := range ahead {
		kept = kept || o.r.Kind == api.Read && o.reply.Err == api.OK && o.reply.Version == v && o.ended > d.first
	}
	if !kept {
		return api.Reply{Err: api.ErrGone}
	}
	return api.Reply{Version: v, State: states[v]}
}
