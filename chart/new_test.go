package chart_test

import (
	"fmt"
	"math"
	"strings"
	"testing"

	"chart/api"
	"chart/chart"
)

func TestNewErrors(t *testing.T) {
	const endless = "(R:.>R)"
	for _, c := range []struct {
		text    string
		clients int
		want    api.Errno
	}{
		{"", 1, api.ErrSyntax},
		{"(R(A:a>B#k)(B:b>A))", 1, api.ErrSyntax},
		{"(A" + strings.Repeat("^;", 118) + ")", 1, api.OK},
		{"(A" + strings.Repeat("^;", 119) + ")", 1, api.ErrLong},
		{strings.Repeat("(", 100000), 1, api.ErrLong},
		{"(A(B)(C)(D)(E)(F)(G)(H)(I)(J)(K)(L)(M)(N)(O)(P)(Q))", 1, api.ErrMany},
		{"(A(A))", 1, api.ErrTwice},
		{"[A]", 1, api.ErrShape},
		{"(A:a>B)", 1, api.ErrName},
		{kl, 0, api.ErrClient},
		{kl, -1, api.ErrClient},
		{kl, api.MaxClients + 1, api.ErrClient},
		{kl, math.MaxInt, api.ErrClient},
		{kl, math.MinInt, api.ErrClient},
		{kl, 1 << 32, api.ErrClient},
		{kl, 1, api.OK},
		{kl, api.MaxClients, api.OK},
		{endless, 1, api.ErrFuel},
		// Where several apply, the one named first.
		{"(A:a>B)", 0, api.ErrName},
		{"", 7, api.ErrSyntax},
		{endless, 0, api.ErrClient},
		{endless, 7, api.ErrClient},
	} {
		x, e := chart.New(c.text, c.clients)
		if e != c.want || (x != nil) != (e == api.OK) {
			t.Errorf("P9: New(%.40q, %d) = %v, %d, want %d", c.text, c.clients, x, e, c.want)
		}
	}
}

// Start has room for Fuel rounds, and New asks for no more and no less.
func TestNewWithinFuel(t *testing.T) {
	for rounds, want := range map[int]api.Errno{30: api.OK, 31: api.ErrFuel} {
		text := "(R^" + strings.Repeat("!a", rounds) + ";)"
		if _, e := chart.New(text, 1); e != want {
			t.Errorf("P9: New(%q, 1) = %d, want %d", text, e, want)
		}
	}
}

func TestClientsAreNumberedFromNought(t *testing.T) {
	for n := 1; n <= api.MaxClients; n++ {
		x := open(t, kl, n)
		for _, u := range []int{-1, n, n + 1, api.MaxClients, math.MaxInt, math.MinInt, 1 << 32} {
			play(t, x, fmt.Sprintf("%d poll 0", u), "error 10", fmt.Sprint(u), "error 10")
		}
		for u := 0; u < n; u++ {
			play(t, x, fmt.Sprint(u), "error 13", fmt.Sprintf("%d poll 0", u), "stands")
		}
		for u := 0; u < n; u++ {
			play(t, x, fmt.Sprint(u), "done, version 0")
		}
	}
}

// Version 0 is what Start tells, with all that belongs to it.
func TestFirstVersionAndLog(t *testing.T) {
	x := open(t, "(R^#s@b3=x4-y2+z9;*H(A:.#t>B)(B))", 1)
	play(t, x, "kept", "0")
	alone(t, x, 0, "read 0", "done, version 0, state RB past - timers b3 x4 y-2 z9")
	alone(t, x, 0, "read -1", "done, version 0, state RB past - timers b3 x4 y-2 z9")
	alone(t, x, 0, "poll 0", "done, version 0, next 2, text st")
	y := open(t, "(R)", 1)
	alone(t, y, 0, "poll 0", "done, version 0")
	alone(t, y, 0, "poll 1", "refused 14, version 0")
}

// What is put out at the start may be more than the log keeps.
func TestLongStart(t *testing.T) {
	for _, c := range []struct{ before, at, want string }{
		{"", "0", "done, version 0, next 8, text abcdefgh"},
		{"#z", "0", "refused 15, version 0"},
		{"#z", "1", "done, version 0, next 9, text abcdefgh"},
		{"#z", "25", "done, version 0, next 25"},
		{"#z", "26", "refused 14, version 0"},
		{strings.Repeat("#z", 40), "39", "refused 15, version 0"},
		{strings.Repeat("#z", 40), "40", "done, version 0, next 48, text abcdefgh"},
	} {
		x := open(t, "(R^"+c.before+"#a#b#c#d#e#f#g#h#i#j#k#l#m#n#o#p#q#r#s#t#u#v#w#x;)", 1)
		alone(t, x, 0, "poll "+c.at, c.want)
	}
}

func TestLastVersionsAreKept(t *testing.T) {
	x := open(t, kl, 1)
	for i, want := range []string{"0", "0 1", "0 1 2", "0 1 2 3", "1 2 3 4", "2 3 4 5", "3 4 5 6"} {
		if i > 0 {
			alone(t, x, 0, "tick", fmt.Sprintf("done, version %d", i))
		}
		play(t, x, "kept", want)
	}
}

func TestManyVersions(t *testing.T) {
	x := open(t, kl, 2)
	letters := ""
	for i := 1; i <= 5000; i++ {
		event, letter := "b", "l"
		if i%2 == 1 {
			event, letter = "a", "k"
		}
		letters += letter
		alone(t, x, 0, "send "+event+" -1", fmt.Sprintf("done, version %d, index 1, text %s", i, letter))
	}
	play(t, x, "kept", "4997 4998 4999 5000")
	alone(t, x, 1, "read 4996", "refused 15, version 5000")
	alone(t, x, 1, "read 4997", "done, version 4997, state RB")
	alone(t, x, 1, "read 5001", "refused 14, version 5000")
	alone(t, x, 1, "poll 4975", "refused 15, version 5000")
	alone(t, x, 1, "poll 4976", "done, version 5000, next 4984, text "+letters[4976:4984])
	alone(t, x, 1, "poll 4995", "done, version 5000, next 5000, text "+letters[4995:])
	alone(t, x, 1, "poll 5000", "done, version 5000, next 5000")
	alone(t, x, 1, "poll 5001", "refused 14, version 5000")
}

func TestVersionsAreNewMemory(t *testing.T) {
	x := open(t, kl, 1)
	first := x.Versions()
	for i := 1; i <= 6; i++ {
		alone(t, x, 0, "tick", fmt.Sprintf("done, version %d", i))
		l := x.Versions()
		before := fmt.Sprint(l)
		for again := 0; again < 3; again++ {
			m := x.Versions()
			if fmt.Sprint(m) != before {
				t.Fatalf("P2: Versions() = %v, want %v", m, before)
			}
			room := m[:cap(m)]
			for j := range room {
				room[j] = -7
			}
		}
		if fmt.Sprint(l) != before {
			t.Fatalf("P2: a list was changed to %v, it was %v", l, before)
		}
	}
	if fmt.Sprint(first) != "[0]" {
		t.Errorf("P2: the first list was changed to %v", first)
	}
	play(t, x, "kept", "3 4 5 6")
}
