package chart_test

import (
	"strings"
	"testing"

	"chart/api"
)

func sent(timers string) api.State { return api.State{Active: "R", Timers: timers} }

func TestWaitExamples(t *testing.T) {
	begin(t, "(R(A:a@b2>-:b>B)(B))", "RA", "a", "RA timers b2", "tick", "RA timers b1", "tick", "RB", "tick", "RB")
}

func TestWaitCountsDown(t *testing.T) {
	walk(t, "(R)", sent(""), "tick", "R", "tick", "R")
	walk(t, "(R)", sent("a1"), "tick", "R")
	walk(t, "(R:a#a>-)", sent("a9"), "tick", "R timers a8", "tick", "R timers a7", "tick", "R timers a6", "tick", "R timers a5",
		"tick", "R timers a4", "tick", "R timers a3", "tick", "R timers a2", "tick", "R timers a1", "tick", "R put a", "tick", "R")
	walk(t, "(R:a#a>-:b#b>-:c#c>-)", sent("c2a1b1c1a2"), "tick", "R timers c1a1 put abc", "tick", "R put ca")
	walk(t, "(R:a#a>-)", sent(strings.Repeat("a1", 8)), "tick", "R put aaaaaaaa")
	walk(t, "(R:a#a>-)", sent(strings.Repeat("b2", 8)), "tick", "R timers "+strings.Repeat("b1", 8))
}

// A tick is no event: without one that comes, nothing is done.
func TestWaitAlone(t *testing.T) {
	walk(t, "(R(A:.#p>B)(B))", api.State{Active: "RA"}, "tick", "RA")
	walk(t, "(R(A:.#p>B)(B))", api.State{Active: "RA", Timers: "q2"}, "tick", "RA timers q1")
	walk(t, "(R(A:.#p>B)(B))", api.State{Active: "RA", Timers: "q1"}, "tick", "RB put p")
	walk(t, "(R:.>R)", sent(""), "tick", "R")
	walk(t, "(R:.>R)", api.State{Active: "R", Timers: "a2b3", X: 99, Y: -99, Z: 7}, "tick", "R timers a1b2 x99 y-99 z7")
	walk(t, "(R*H(A)(B))", api.State{Active: "RB", Past: "A"}, "tick", "RB past A")
}

// Each event is fired on what the one before gave, with all that it raises.
func TestWaitFiresOneByOne(t *testing.T) {
	walk(t, "(R(A:a!m>B:b#x>-)(B:b#y>-:m#m>-))", api.State{Active: "RA", Timers: "a1b1"}, "tick", "RB put my")
	walk(t, "(R(A:a!m>B:b#x>-)(B:b#y>-:m#m>-))", api.State{Active: "RA", Timers: "b1a1"}, "tick", "RB put xm")
	walk(t, "(R:a?x=0+x1#a>-:a?x=1+x1#b>-)", sent("a1a1a1"), "tick", "R put ab x2")
	walk(t, "(R(P*H(A)(B)):q>Q:h>H(Q))", api.State{Active: "RPB", Past: "-", Timers: "q1h1"}, "tick", "RPB past B")
}

// What is sent meanwhile comes behind the rest, and waits for the ticks to come.
func TestWaitAndSend(t *testing.T) {
	walk(t, "(R:a@a1#a>-)", sent("a1"), "tick", "R timers a1 put a", "tick", "R timers a1 put a")
	walk(t, "(R:a@b1#a>-:b#b>-)", sent("a1b2"), "tick", "R timers b1b1 put a", "tick", "R put bb")
	walk(t, "(R:a@b9#a>-:b#b>-)", sent("a1b1"), "tick", "R timers b9 put ab")
}

// What comes now may be called back, as long as it has not come.
func TestWaitAndCallBack(t *testing.T) {
	walk(t, "(R:a~b#a>-:b#b>-)", sent("a1b1b2c5"), "tick", "R timers c4 put a")
	walk(t, "(R:a~b#a>-:b#b>-)", sent("b1a1b1"), "tick", "R put ba")
	walk(t, "(R:a~a#a>-)", sent("a1a1a2"), "tick", "R put a")
	walk(t, "(R:a~b@b1#a>-:b#b>-)", sent("a1b1"), "tick", "R timers b1 put a")
	walk(t, "(R:a~b#a>-:b~c#b>-:c#c>-)", sent("a1b1c1"), "tick", "R put ac")
}

// What comes now counts for the bound as long as it has not come.
func TestWaitAndTheBoundOfTimers(t *testing.T) {
	six := strings.Repeat("q3", 6)
	less := strings.Repeat("q2", 6)
	walk(t, "(R:a@b1@b1#k>-:z#e>-)", sent("a1a1"+six), "tick", "R timers "+less+"b1b1 put ee")
	walk(t, "(R:a@b1@b1#k>-:z#e>-)", sent("a1"+six), "tick", "R timers "+less+"b1b1 put k")
	walk(t, "(R:a@b1#k>-:z#e>-)", sent("a1a1"+six), "tick", "R timers "+less+"b1b1 put kk")
	walk(t, "(R:a@b1@b1#k>-:z#e>-)", sent("c1a1"+six), "tick", "R timers "+less+"b1b1 put k")
	walk(t, "(R:a~c@b1@b1#k>-:z#e>-)", sent("a1c1"+six), "tick", "R timers "+less+"b1b1 put k")
}

// Too many rounds undo what one event did, but for its going out; the others go on.
func TestWaitWithoutFuel(t *testing.T) {
	walk(t, "(R:a!a#a>-:b#b>-)", sent("a1"), "tick", "R")
	walk(t, "(R:a!a#a>-:b#b>-)", sent("b1a1b1a2"), "tick", "R timers a1 put bb", "tick", "R")
	const c = "(R(A^+x1@q9~b#m;:a!e>A:b#b>-:e#e!e+y1>-))"
	walk(t, c, api.State{Active: "RA", Timers: "a1b1b2c1", X: 5}, "tick", "RA timers b1 put b x5", "tick", "RA put b x5")
	walk(t, "(R(P*H(A:a>B)(B:.>A)(C:a!f>Q)):f!f>-(Q))", api.State{Active: "RPC", Past: "B", Timers: "a1d2"}, "tick", "RPC past B timers d1")
	// Fuel is for each event anew: twenty rounds each.
	walk(t, "(R:a-x9-x9>-:.?x<1+x1>-)", sent("a1a1a1a1"), "tick", "R x1")
	// Thirty rounds are not too many, thirty-one are.
	walk(t, "(R:a"+strings.Repeat("!b", 29)+"#k>-)", sent("a1"), "tick", "R put k")
	walk(t, "(R:a"+strings.Repeat("!b", 30)+"#k>-)", sent("a1"), "tick", "R")
	// A call back that was undone has called nothing back.
	walk(t, "(R:a~b!a>-:b#b>-)", sent("a1b1"), "tick", "R put b")
	// Each of them is without end.
	walk(t, "(R:.>R)", sent("a1b1a2"), "tick", "R timers a1", "tick", "R")
}
