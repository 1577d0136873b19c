package chart_test

import (
	"strings"
	"testing"

	"chart/api"
)

func at(active string) api.State { return api.State{Active: active} }

func TestFireExamples(t *testing.T) {
	begin(t, "(R(A:a>B)(B^+x1;:a?x<3#k>A))", "RA",
		"a", "RB x1", "a", "RA put k x1", "a", "RB x2", "a", "RA put k x2", "a", "RB x3", "a", "RB x3", "q", "RB x3")
	begin(t, "(R(P*H(A:a>B)(B:a>A)):q>Q(Q:h>H))", "RPA past -",
		"a", "RPB past -", "q", "RQ past B", "h", "RPB past B")
	begin(t, "(R(P*H(A:a>B)(B:a>A)):q>Q(Q:h>H))", "RPA past -",
		"q", "RQ past A", "h", "RPA past A")
	begin(t, "(R[P(A(B:a>E)<E>)(C(D:b>F)<F>):P#k>-])", "RPABCD", "a", "RPAECD", "b", "RPAECF put k")
	begin(t, "(R:a=x9+x9+x9+x9+x9+x9+x9+x9+x9+x9+x9+x9!b>-:b#b>-:z#e>-)", "R", "a", "R put e x99")
}

// Which states a transition leaves and enters: all that are below its domain.
func TestDomains(t *testing.T) {
	const told = "(R^#r;$#s;(A^#a;$#b;%s(B^#c;$#d;%s(C^#e;$#f;%s)(D^#g;$#h;))))"
	domains := []struct{ inA, inB, inC, want string }{
		{"", "", ":t#x>-", "RABC put x"},
		{"", "", ":t#x>C", "RABC put fxe"},
		{"", "", ":t#x>D", "RABD put fxg"},
		{"", "", ":t#x>B", "RABC put fdxce"},
		{"", "", ":t#x>A", "RABC put fdbxace"},
		{"", "", ":t#x>R", "RABC put fdbsxrace"},
		{"", ":t#x>-", "", "RABC put x"},
		{"", ":t#x>C", "", "RABC put fdxce"},
		{"", ":t#x>D", "", "RABD put fdxcg"},
		{"", ":t#x>B", "", "RABC put fdxce"},
		{"", ":t#x>A", "", "RABC put fdbxace"},
		{":t#x>D", "", "", "RABD put fdbxacg"},
		{":t#x>B", "", "", "RABC put fdbxace"},
		{":t#x>R", "", "", "RABC put fdbsxrace"},
	}
	for _, d := range domains {
		text := told
		for _, s := range []string{d.inA, d.inB, d.inC} {
			text = strings.Replace(text, "%s", s, 1)
		}
		walk(t, text, at("RABC"), "t", d.want)
	}
	// The root's own transitions leave the root, as only the document is above it.
	walk(t, "(R^#r;$#s;:t#x>A(A^#a;$#b;)(B))", at("RB"), "t", "RA put sxra")
	walk(t, "(R^#r;$#s;:t#x>B(A^#a;$#b;)(B))", at("RA"), "t", "RB put bsxr")
	walk(t, "(R^#r;$#s;:t#x>R)", at("R"), "t", "R put sxr")
}

// A parallel state is no domain: what goes from one of its children to another leaves it.
func TestDomainsAroundParallelStates(t *testing.T) {
	const c = "(R^#r;[P^#p;$#q;(A^#a;$#b;:t#x>C)(C^#c;$#d;(D$#e;)(E^#f;:t#y>D:u#w>A:v#v>P))])"
	walk(t, c, at("RPACD"), "t", "RPACD put edbqxpac")
	walk(t, c, at("RPACE"), "u", "RPACD put dbqwpac")
	walk(t, c, at("RPACE"), "v", "RPACD put dbqvpac")
	// The two clash, as the first leaves what the second leaves; the first was there first.
	walk(t, c, at("RPACE"), "t", "RPACD put dbqxpac")
	walk(t, "[P^#p;$#q;(A$#b;:t#x>A)(C$#d;)]", at("PAC"), "t", "PAC put dbqxp")
	walk(t, "[P(A(B)(C))(D(E:t>C)(F))]", at("PABDE"), "t", "PACDE")
	walk(t, "[P(A(B)(C))(D(E:t>F)(F))]", at("PACDE"), "t", "PACDF")
	// To enter one state below a parallel one is to enter all of them.
	walk(t, "(R(Q:t>E)[P(A(B)(C))(D(F)(E))])", at("RQ"), "t", "RPABDE")
	walk(t, "(R(Q:t>C)[P(A(B)(C))(D(F)(E))])", at("RQ"), "t", "RPACDF")
	walk(t, "(R(Q:t>P)[P(A(B)(C))(D(F)(E))])", at("RQ"), "t", "RPABDF")
}

func TestInnermostIsChosen(t *testing.T) {
	walk(t, "(R:a#r>-(P:a#p>-(A:a#a>-)))", at("RPA"), "a", "RPA put a")
	walk(t, "(R:a#r>-(P:a#p>-(A)))", at("RPA"), "a", "RPA put p")
	walk(t, "(R:a#r>-(P(A)))", at("RPA"), "a", "RPA put r")
	walk(t, "(R:b#r>-(P(A)))", at("RPA"), "a", "RPA")
	walk(t, "(R:a#r>-<F>)", at("RF"), "a", "RF put r")
	walk(t, "(R(A:a#a>-)(B):a#r>-)", at("RB"), "a", "RB put r")
	walk(t, "(R:a#x>-:a#y>-(A):a#z>-)", at("RA"), "a", "RA put x")
	walk(t, "(R(A:b#b>-:a#x>-:a#y>-))", at("RA"), "a", "RA put x")
}

func TestGuards(t *testing.T) {
	const c = "(R(A:a?x<3#x>-:a?y=3#y>-:a?z>3#z>-):a#n>-)"
	for _, g := range []struct {
		x, y, z int
		want    string
	}{
		{2, 0, 0, "x"}, {3, 3, 0, "y"}, {3, 2, 4, "z"}, {3, 2, 3, "n"}, {-99, 3, 9, "x"}, {99, -3, -99, "n"}, {99, 4, 99, "z"}, {99, 99, -4, "n"}, {4, 3, 4, "y"},
	} {
		s := api.State{Active: "RA", X: g.x, Y: g.y, Z: g.z}
		walk(t, c, s, "a", show(s, g.want, 0))
	}
	walk(t, "(R:a?x>0#g>-:a?x=0#e>-:a?x<0#l>-)", at("R"), "a", "R put e")
	walk(t, "(R:a?x>0#g>-:a?x=0#e>-:a?x<0#l>-)", api.State{Active: "R", X: 1}, "a", "R put g x1")
	walk(t, "(R:a?x>0#g>-:a?x=0#e>-:a?x<0#l>-)", api.State{Active: "R", X: -1}, "a", "R put l x-1")
	walk(t, "(R:a?z>8#g>-:a?z<9#l>-)", api.State{Active: "R", Z: 9}, "a", "R put g z9")
	// A guard is asked when the choice is made, ahead of all that is done then.
	walk(t, "[R(A(B$+x1;:a?x=0#b>C)(C))(D(E:a?x=0#e>F)(F))]", at("RABDE"), "a", "RACDF put be x1")
}

func TestEachTransitionOnce(t *testing.T) {
	walk(t, "[R:a#k>-(A)(B)(C)]", at("RABC"), "a", "RABC put k")
	walk(t, "[R:a#k>R(A)(B)(C)]", at("RABC"), "a", "RABC put k")
	walk(t, "[R:a#k>-(A:a#i>-)(B)(C)]", at("RABC"), "a", "RABC put ik")
	walk(t, "[R:a#k>-(A)(B:a#i>-)(C)]", at("RABC"), "a", "RABC put ki")
}

// Transitions that both leave a state clash.
func TestClashes(t *testing.T) {
	// They leave nothing in common.
	walk(t, "[R(A(B:a#b>C)(C))(D(E:a#e>F)(F))]", at("RABDE"), "a", "RACDF put be")
	walk(t, "[R(A(B:a#b>C)(C))(D(E:a#e>F)(F))(G(H:a#h>I)(I))]", at("RABDEGH"), "a", "RACDFGI put beh")
	// One that leaves nothing clashes with none.
	walk(t, "[R(A:a#a>-)(B:a#b>-)(C:a#c>-)]", at("RABC"), "a", "RABC put abc")
	walk(t, "(R[P(A:a#a>Q)(B:a#b>-)](Q))", at("RPAB"), "a", "RQ put ab")
	walk(t, "(R[P(A:a#a>-)(B:a#b>Q)](Q))", at("RPAB"), "a", "RQ put ab")
	walk(t, "(R[P:a#p>-(A)(B:a#b>Q)](Q))", at("RPAB"), "a", "RQ put pb")
	// Of two that stand side by side the first stays.
	walk(t, "(R[P(A:a#a>Q)(B:a#b>S)](Q)(S))", at("RPAB"), "a", "RQ put a")
	walk(t, "(R[P(A:a#a>Q)(B(C:a#c>D)(D))](Q))", at("RPABC"), "a", "RQ put a")
	walk(t, "(R[P(B(C:a#c>D)(D))(A:a#a>Q)](Q))", at("RPBCA"), "a", "RPBDA put c")
	// Of two of which one stands within the other's state that one stays.
	walk(t, "(R[P:a#p>Q(A)(B(C:a#c>D)(D))](Q))", at("RPABC"), "a", "RPABD put c")
	walk(t, "(R[P:a#p>Q(B(C:a#c>D)(D))(A)](Q))", at("RPBCA"), "a", "RPBDA put c")
	walk(t, "(R[P:a#p>Q(A)(B:a#b>S)](Q)(S))", at("RPAB"), "a", "RS put b")
	// The one that came first has a state above, but is found again behind: it stays away.
	walk(t, "(R[P:a#p>Q(A)(B(C:a#c>D)(D))(E)](Q))", at("RPABCE"), "a", "RPABDE put c")
	// The one that comes joins the end.
	walk(t, "(R[P:a#u>Q(A)(B:a#w>-)(C(D:a#t>E)(E))](Q))", at("RPABCD"), "a", "RPABCE put wt")
	// Two that gave way, each to another one.
	walk(t, "[R[P:a#p>P(A)(B(C:a#c>D)(D))][Q:a#q>Q(E)(F(G:a#g>H)(H))]]", at("RPABCQEFG"), "a", "RPABDQEFH put cg")
}

func TestOrderOfAMicrostep(t *testing.T) {
	const c = "[R(A^#a;$#b;(B^#c;$#d;:t#x>C)(C^#e;$#f;))(D^#g;$#h;(E^#i;$#j;:t#y>F)(F^#k;$#l;))]"
	walk(t, c, at("RABDE"), "t", "RACDF put jdxyek")
	walk(t, c, at("RACDE"), "t", "RACDF put jyk")
	walk(t, c, at("RABDF"), "t", "RACDF put dxe")
	walk(t, c, at("RACDF"), "t", "RACDF")
	// Blocks go in the order of the text, wherever in the state they stand.
	walk(t, "(R(A$#a;(B)$#b;^#c;:t>A(C)^#d;$#e;^#f;))", at("RAB"), "t", "RAB put abecdf")
	// What a block raises joins the queue, and comes behind the microstep.
	walk(t, "(R(A$!l;:t!m>B)(B^!n;:l#l>-:m#m>-:n#n>-))", at("RA"), "t", "RB put lmn")
}

func TestHistories(t *testing.T) {
	const c = "(R(P*H(A:n>B)(B(C:n>D)(D)))(Q:h>H):q>Q)"
	begin(t, c, "RPA past -", "q", "RQ past A", "q", "RQ past A", "h", "RPA past A",
		"n", "RPBC past A", "n", "RPBD past A", "q", "RQ past B", "h", "RPBC past B")
	// Without a past it is the first child, whatever stands ahead of it.
	begin(t, "(R(Q:h>H)(P*H*I(A)(B)))", "RQ past --", "h", "RPA past --")
	// From within: the parent is not left, and the past is the one before.
	const within = "(R(P*H(A:n>B)(B:h#k>H))(Q:p>P):q>Q)"
	begin(t, within, "RPA past -", "n", "RPB past -", "h", "RPA past - put k", "n", "RPB past -",
		"q", "RQ past B", "p", "RPA past B", "n", "RPB past B", "h", "RPB past B put k")
	// The parent's own transition leaves the parent: the past is how it is left now.
	begin(t, "(R(P*H(A:n>B)(B):h#k>H))", "RPA past -", "h", "RPA past A put k", "n", "RPB past A", "h", "RPB past B put k")
	begin(t, "(R*H(A:n>B)(B):h#k>H)", "RA past -", "n", "RB past -", "h", "RB past B put k")
	// Each history whose parent is left, and no other.
	const three = "(R*G(P*H(A:n>B)(B)*I:u>P)(Q*J(C)(D):u>Q):t>Q:s>P)"
	begin(t, three, "RPA past ----", "n", "RPB past ----", "u", "RPA past -BB-", "t", "RQC past PAA-",
		"u", "RQC past PAAC", "s", "RPA past QAAC")
	// A child that is parallel comes back as it begins.
	begin(t, "(R(P*H(A:n>S)[S(B(C:n>D)(D))(E)])(Q:h>H):q>Q)", "RPA past -", "n", "RPSBCE past -", "n", "RPSBDE past -",
		"q", "RQ past S", "h", "RPSBCE past S")
	// A history within a child of a parallel state.
	begin(t, "(R[S(P*H(A:n>B)(B))(E)](Q:h>H):q>Q)", "RSPAE past -", "n", "RSPBE past -", "q", "RQ past B", "h", "RSPBE past B")
	// Two at once, side by side.
	begin(t, "[S(P(K:h>H)(L*H(A:n>B)(B:n>C)(C)):k>K:l>L)(Q(M:h>I)(N*I(D)(E)):k>M:l>E)]", "SPKQM past --",
		"h", "SPLAQND past --", "n", "SPLBQND past --", "k", "SPKQM past BD", "h", "SPLBQND past BD")
	walk(t, "(R(Q:h>H)(P*H(A)(B)))", api.State{Active: "RQ", Past: "B"}, "h", "RPB past B")
}

func TestEnds(t *testing.T) {
	// The name of a final state's parent comes behind what was raised on the way there.
	walk(t, "(R(Q:t!m>F)(P^!n;<F>):P#p>-:m#m>-:n#n>-)", at("RQ"), "t", "RPF put mnp")
	// It is told once, when the final state is entered, and not again.
	walk(t, "(R(P(A:t>F)<F>):P#p>-)", at("RPA"), "t", "RPF put p", "t", "RPF")
	// It is told again if it is entered again.
	walk(t, "(R(P:t>F(A)<F>):P#p>-)", at("RPA"), "t", "RPF put p", "t", "RPF put p")
	// All children of a parallel state must be at their ends; the last one to come tells it.
	const two = "(R[P(A(B:a>E)<E>)(C(D:b>F)<F>):P#p>-:A#a>-:C#c>-])"
	walk(t, two, at("RPABCD"), "a", "RPAECD put a", "b", "RPAECF put cp")
	walk(t, two, at("RPABCD"), "b", "RPABCF put c", "a", "RPAECF put ap")
	// Both in one microstep: only the second finds the other at its end.
	walk(t, "[P(A(B:t>E)<E>)(C(D:t>F)<F>):P#p>-:A#a>-:C#c>-]", at("PABCD"), "t", "PAECF put acp")
	// The name goes to the state above the parent alone, not further up.
	const deep = "[P[Q(A(B:a>E)<E>)(C(D:b>F)<F>)](G(I:c>J)<J>):P#p>-:Q#q>-]"
	walk(t, deep, at("PQABCDGI"), "c", "PQABCDGJ", "a", "PQAECDGJ", "b", "PQAECFGJ put q")
	walk(t, deep, at("PQABCDGI"), "a", "PQAECDGI", "b", "PQAECFGI put q", "c", "PQAECFGJ put p")
	// A state that is left is not at its end any more.
	walk(t, "[P(A(B:a>E)<E>:r>B)(C(D:b>F)<F>):P#p>-]", at("PABCD"), "a", "PAECD", "r", "PABCD", "b", "PABCF", "a", "PAECF put p")
	// Final states among others of their parent, and a compound state above that is not parallel.
	walk(t, "(R(A(B:t>F)(C)<E><F>):A#a>-:R#r>-)", at("RAB"), "t", "RAF put a")
	// A child without states in it is never at its end.
	walk(t, "[P(A(B:t>E)<E>)(C):P#p>-:A#a>-]", at("PABC"), "t", "PAEC put a")
	// Names set off transitions as events do: inner ones first, with guards.
	walk(t, "(R(P(A:t>F)<F>:P?x=1#i>-):P#o>-)", at("RPA"), "t", "RPF put o")
	walk(t, "(R(P(A:t>F)<F>:P?x=1#i>-):P#o>-)", api.State{Active: "RPA", X: 1}, "t", "RPF put i x1")
}

func TestActs(t *testing.T) {
	walk(t, "(R:a+x1+x2-y3=z4+z5-x9>-)", at("R"), "a", "R x-6 y-3 z9")
	walk(t, "(R:a=x0=y0=z0>-)", api.State{Active: "R", X: 99, Y: -99, Z: 5}, "a", "R")
	walk(t, "(R:a+x0-y0>-)", api.State{Active: "R", X: 99, Y: -99}, "a", "R x99 y-99")
	walk(t, "(R:a@b1@c9@b5>-)", api.State{Active: "R", Timers: "d4"}, "a", "R timers d4b1c9b5")
	walk(t, "(R:a~b>-)", api.State{Active: "R", Timers: "b1a2b3c4b9"}, "a", "R timers a2c4")
	walk(t, "(R:a~b>-)", api.State{Active: "R", Timers: "a2c4"}, "a", "R timers a2c4")
	walk(t, "(R:a~b>-)", api.State{Active: "R", Timers: "b2"}, "a", "R")
	walk(t, "(R:a@b1~b@b2>-)", at("R"), "a", "R timers b2")
	walk(t, "(R:a#z#y#z>-)", at("R"), "a", "R put zyz")
	walk(t, "(R:a!b#a!c>-:b#b!d>-:c#c>-:d#d>-)", at("R"), "a", "R put abcd")
}

// The bounds of the variables: at them all is well, beyond them it is an error.
func TestBoundsOfVariables(t *testing.T) {
	for _, c := range []struct {
		act       string
		from, out int
		fails     bool
	}{
		{"+x9", 90, 99, false}, {"+x9", 91, 91, true}, {"+x1", 98, 99, false}, {"+x1", 99, 99, true}, {"+x0", 99, 99, false},
		{"-x9", -90, -99, false}, {"-x9", -91, -91, true}, {"-x1", -98, -99, false}, {"-x1", -99, -99, true}, {"-x0", -99, -99, false},
		{"+x9", -99, -90, false}, {"-x9", 99, 90, false}, {"=x9", -99, 9, false}, {"=x0", 99, 0, false},
	} {
		for i, v := range []string{"x", "y", "z"} {
			text := "(R:a" + strings.ReplaceAll(c.act, "x", v) + "#k>-:z#e>-)"
			from := []api.State{{Active: "R", X: c.from}, {Active: "R", Y: c.from}, {Active: "R", Z: c.from}}[i]
			to := []api.State{{Active: "R", X: c.out}, {Active: "R", Y: c.out}, {Active: "R", Z: c.out}}[i]
			put := "k"
			if c.fails {
				put = "e"
			}
			walk(t, text, from, "a", show(to, put, 0))
		}
	}
}

func TestBoundOfTimers(t *testing.T) {
	const c = "(R:a@b3#k>-:d~q@b3#k>-:z#e>-)"
	seven, eight := strings.Repeat("q5", 7), strings.Repeat("q5", 8)
	walk(t, c, api.State{Active: "R", Timers: seven}, "a", "R timers "+seven+"b3 put k", "a", "R timers "+seven+"b3 put e",
		"d", "R timers b3b3 put k")
	walk(t, c, api.State{Active: "R", Timers: eight}, "a", "R timers "+eight+" put e", "d", "R timers b3 put k")
}

// An error leaves out the rest of its own block or transition, and nothing else.
func TestErrorsOfActs(t *testing.T) {
	full := api.State{Active: "RA", X: 99}
	walk(t, "(R(A$#a+x1#b;$#c;:t#d+x1#e>B)(B^#f+x1#g;^#h;):z#z>-)", full, "t", "RB put acdfhzzz x99")
	// What was done ahead of it stays done.
	walk(t, "(R(A:t+y1@q1!m+x1+y1>-:m#m>-:z#z>-))", full, "t", "RA timers q1 put mz x99 y1")
	// The event z waits its turn.
	walk(t, "(R(A:t!m+x1!n>B)(B^!o;:m#m>-:n#n>-:o#o>-:z#z>-))", full, "t", "RB put mzo x99")
	// Of two transitions only the one with the error is cut short.
	walk(t, "[R(A:t+x1#a>-)(B:t#b>-):z#z>-]", api.State{Active: "RAB", X: 99}, "t", "RAB put bz x99")
	// What z sets off may be wrong again, without end.
	walk(t, "(R(A:t+x1>-:z+x1>-))", full, "t", " error 9")
	// Nobody hears it.
	walk(t, "(R(A:t+x1#a>-))", full, "t", "RA x99")
	walk(t, "(R(A:z#z>-))", full, "z", "RA put z x99")
}

func TestRoundsOfFire(t *testing.T) {
	// The queue is first in, first out.
	walk(t, "(R:a!b!c>-:b#b!d>-:c#c!e>-:d#d>-:e#e>-)", at("R"), "a", "R put bcde")
	// What waits for nothing goes ahead of the queue, again and again.
	walk(t, "(R:a!b!c+x2>-:.?x>0-x1#p>-:b#b+x1>-:c#c>-)", at("R"), "a", "R put ppbpc")
	// But the event itself goes ahead of it.
	walk(t, "(R(A:.#p>B:a#a>-)(B:a#b>-))", at("RA"), "a", "RB put ap")
	walk(t, "(R(A:.#p>B)(B:a#b>-))", at("RA"), "a", "RB put p")
	// An event that nobody hears is gone.
	walk(t, "(R(A:a!b>-:c>B)(B:b#b>-))", at("RA"), "a", "RA", "c", "RB", "a", "RB")
	// What is raised in the queue is heard in the state that is active then.
	walk(t, "(R(A:a!b!c>-:b#b>B)(B:c#c>-))", at("RA"), "a", "RB put bc")
	// It waits for its guard.
	walk(t, "(R(A:.?x=1#p>B:a+x1>-)(B))", at("RA"), "a", "RB put p x1")
	// Inner ones go first for '.' too, and clash.
	walk(t, "(R:.?x=1=x2#o>-(A:.?x=1=x3#i>-:a=x1>-))", at("RA"), "a", "RA put i x3")
}

// The event's microstep is the first of thirty rounds.
func TestFireWithinFuel(t *testing.T) {
	for n := 26; n <= 33; n++ {
		raised := "(R:a" + strings.Repeat("!b", n) + ">-)"
		heard := "(R:a" + strings.Repeat("!b", n) + ">-:b#k>-)"
		counted := "(R:a-x9-x9" + strings.Repeat("-x1", n-26) + ">-:.?x<8+x1>-)"
		from := api.State{Active: "R"}
		if n > 29 {
			walk(t, raised, from, "a", " error 9")
			walk(t, heard, from, "a", " error 9")
			walk(t, counted, from, "a", " error 9")
			continue
		}
		walk(t, raised, from, "a", "R")
		walk(t, heard, from, "a", "R put "+strings.Repeat("k", n))
		walk(t, counted, from, "a", "R x8")
	}
	// An event that nobody hears is a round too.
	walk(t, "(R:.?x<9+x1>-)", api.State{Active: "R", X: -20}, "a", "R x9")
	walk(t, "(R:.?x<9+x1>-)", api.State{Active: "R", X: -21}, "a", " error 9")
	walk(t, "(R:a!a>-)", at("R"), "a", " error 9", "b", "R")
	walk(t, "(R(A:a>B)(B:.>A))", at("RA"), "a", "RA")
	walk(t, "(R(A:.>B)(B:.>A))", at("RA"), "a", " error 9")
}
