package chart_test

import (
	"fmt"
	"math"
	"math/rand"
	"slices"
	"testing"

	"chart/api"
	"chart/chart"
)

// pair is a service and the other telling of one, to which the same is done.
type pair struct {
	*house
	k   *keeper
	met map[string]int
}

func (p *pair) hold(deed, got, want string) {
	p.t.Helper()
	if got != want {
		p.t.Fatalf("P10, P11: %s: %s: %q, want %q", p.text, deed, got, want)
	}
	if l, m := p.x.Versions(), p.k.versions(); !slices.Equal(l, m) {
		p.t.Fatalf("P9: %s: behind %s: Versions() = %v, want %v", p.text, deed, l, m)
	}
}

func (p *pair) ask(u int, r api.Request) {
	p.t.Helper()
	got, want := showAsk(p.house.ask(u, r)), showAsk(p.k.ask(u, r))
	p.hold(fmt.Sprintf("Ask(%d, %+v)", u, r), got, want)
	p.met["ask "+want]++
}

func (p *pair) step(u int) {
	p.t.Helper()
	kind := 0
	if u >= 0 && u < len(p.k.of) && p.k.of[u] != nil {
		kind = p.k.of[u].r.Kind
	}
	got := showStep(p.house.step(u))
	reply, done, e := p.k.step(u)
	p.hold(fmt.Sprintf("Step(%d)", u), got, showStep(reply, done, e))
	p.met[fmt.Sprintf("kind %d, done %v, reply %d, error %d", kind, done, reply.Err, e)]++
	if len(p.k.versions()) > 6 {
		p.met["three pinned versions behind the window"]++
	}
}

// request makes a request that is near to where the service stands.
func (p *pair) request(r *rand.Rand) api.Request {
	q := api.Request{Kind: 1 + r.Intn(4)}
	latest, joined := p.k.latest(), len(p.k.log)
	switch q.Kind {
	case api.Send:
		for n := 1 + r.Intn(4); n > 0; n-- {
			q.Events += string("aaabbcz"[r.Intn(7)])
		}
		q.At = -1
		if r.Intn(3) == 0 {
			q.At = latest + r.Intn(3)
		}
	case api.Read:
		q.At = -1
		if r.Intn(2) == 0 {
			q.At = max(-1, latest+2-r.Intn(9))
		}
		if l := p.k.versions(); r.Intn(4) == 0 {
			q.At = l[0]
		}
	case api.Poll:
		q.At = max(0, joined+2-r.Intn(30))
	}
	if r.Intn(40) > 0 {
		return q
	}
	switch r.Intn(4) {
	case 0:
		q.At = []int{-1, -2, 1, math.MinInt, math.MaxInt}[r.Intn(5)]
	case 1:
		q.Events += string("aaA.\xff"[r.Intn(5)])
	case 2:
		q.Kind = r.Intn(7) - 1
	case 3:
		q.Events += "aaaa"
	}
	return q
}

// run does a number of things, drawn by chance. Reads of some clients are slow for a
// while, so that the versions they have pinned come to lie far behind the latest one.
func (p *pair) run(r *rand.Rand, deeds int) {
	p.t.Helper()
	n := len(p.k.of)
	slow := 0
	for i := 0; i < deeds; i++ {
		if i%100 == 0 {
			slow = r.Intn(n)
		}
		u := r.Intn(n)
		if d := p.k.of[u]; d != nil && d.taken >= 0 && u < slow && r.Intn(20) > 0 {
			u = n - 1
		}
		if r.Intn(60) == 0 {
			u = []int{-1, n, math.MaxInt, math.MinInt}[r.Intn(4)]
		}
		inside := u >= 0 && u < n
		if r.Intn(12) == 0 || inside && p.k.of[u] == nil && r.Intn(8) > 0 {
			p.ask(u, p.request(r))
		} else {
			p.step(u)
		}
	}
}

// finish goes on until no request stands, and looks at the row that all of them make.
func (p *pair) finish() {
	p.t.Helper()
	stands := func(d *deed) bool { return d != nil }
	for round := 0; slices.ContainsFunc(p.at, stands); round++ {
		if round > 40 {
			p.t.Fatalf("P11: %s: requests come to no end", p.text)
		}
		for u := range p.at {
			p.step(u)
		}
	}
	p.house.hold()
}

func TestSweepOfServices(t *testing.T) {
	r := rand.New(rand.NewSource(4))
	made := player{r: r}
	met := map[string]int{}
	for services := 0; services < 300; {
		text, clients := made.chart(), 1+r.Intn(6)
		if r.Intn(4) == 0 {
			text = "(R^#s;(A:a#k#l#m+x1>B:c@b2>-)(B:a#n>A:b?x>6!b>B:b#o#p#q>A):z#z@a1>-)"
		}
		if e, _ := chart.Check(text); e != api.OK {
			continue
		}
		k := newKeeper(text, clients)
		if _, e := chart.New(text, clients); (k != nil) != (e == api.OK) {
			t.Fatalf("P9: New(%q, %d) = %d", text, clients, e)
		}
		if k == nil {
			continue
		}
		services++
		p := &pair{house: newHouse(t, text, clients), k: k, met: met}
		p.run(r, 400)
		p.finish()
	}
	for _, want := range []string{
		"ask stands", "ask error 10", "ask error 11", "ask error 12",
		"kind 0, done false, reply 0, error 10", "kind 0, done false, reply 0, error 13",
		"kind 1, done false, reply 0, error 0", "kind 1, done true, reply 0, error 0",
		"kind 1, done true, reply 14, error 0", "kind 1, done true, reply 9, error 0",
		"kind 2, done false, reply 0, error 0", "kind 2, done true, reply 0, error 0",
		"kind 3, done false, reply 0, error 0", "kind 3, done true, reply 0, error 0",
		"kind 3, done true, reply 14, error 0", "kind 3, done true, reply 15, error 0",
		"kind 4, done true, reply 0, error 0", "kind 4, done true, reply 14, error 0", "kind 4, done true, reply 15, error 0",
		"three pinned versions behind the window",
	} {
		if met[want] < 40 {
			t.Errorf("the sweep met %q only %d times", want, met[want])
		}
	}
	t.Log(met)
}

// All orders of the first deeds of a few clients: each one asks for what is on its list, and
// steps as long as a request of it stands.
func TestAllOrders(t *testing.T) {
	const text = "(R:a#k+x1@d1>-:b#l=x0>-:d#d>-:f!f>-)"
	send := func(events string, at int) api.Request { return api.Request{Kind: api.Send, Events: events, At: at} }
	tick, read, poll := api.Request{Kind: api.Tick}, api.Request{Kind: api.Read, At: -1}, api.Request{Kind: api.Poll}
	for _, c := range []struct {
		length int
		lists  [][]api.Request
	}{
		{10, [][]api.Request{{send("ab", -1), poll}, {send("a", 0), read, tick}}},
		{8, [][]api.Request{{send("ab", -1)}, {tick, read}, {read, poll}}},
		{8, [][]api.Request{{send("af", -1)}, {send("b", 1)}, {tick, poll}}},
		{7, [][]api.Request{{send("a", -1)}, {send("b", 1)}, {tick}, {read}}},
	} {
		orders := 1
		for i := 0; i < c.length; i++ {
			orders *= len(c.lists)
		}
		for order := 0; order < orders; order++ {
			n := len(c.lists)
			p := &pair{house: newHouse(t, text, n), k: newKeeper(text, n), met: map[string]int{}}
			next := make([]int, n)
			for i, left := 0, order; i < c.length; i, left = i+1, left/n {
				u := left % n
				if p.k.of[u] == nil && next[u] < len(c.lists[u]) {
					p.ask(u, c.lists[u][next[u]])
					next[u]++
					continue
				}
				p.step(u)
			}
			p.finish()
		}
	}
}

// The same things done to two services of one chart get the same answers.
func TestServicesHangOnWhatWasDoneAlone(t *testing.T) {
	const text = "(R(A:a#k+x1@d2>B)(B:b#l>A:d#d>A))"
	for seed := int64(0); seed < 20; seed++ {
		var told [2][]string
		x := [2]*chart.Service{open(t, text, 3), open(t, text, 3)}
		for way := range x {
			r := rand.New(rand.NewSource(seed))
			for i := 0; i < 200; i++ {
				deed := fmt.Sprint(r.Intn(4))
				deed += []string{"", "", "", " send ab -1", " send bad 3", " tick", " read -1", " read 2", " poll 0", " poll 7"}[r.Intn(10)]
				told[way] = append(told[way], deed+": "+perform(x[way], deed), perform(x[way], "kept"))
			}
		}
		if !slices.Equal(told[0], told[1]) {
			t.Fatalf("P2: two services were told %v and %v", told[0], told[1])
		}
	}
}
