package chart_test

import (
	"strings"
	"testing"

	"chart/api"
	"chart/chart"
)

func TestStartEntersInOrder(t *testing.T) {
	begin(t, "(A)", "A")
	begin(t, "[A(B)]", "AB")
	begin(t, "(R(A)(B))", "RA")
	begin(t, "(R<A>(B))", "RA")
	begin(t, "(R*H(A)*I(B))", "RA past --")
	begin(t, "(R*H(P*I(A)(B))(Q))", "RPA past --")
	begin(t, "(R^#r;(A^#a;(B^#b;)(C^#c;))(D^#d;))", "RAB put rab")
	begin(t, "(R(A^#a;)^#r;)", "RA put ra")
	begin(t, "[R^#r;(A^#a;(B^#b;)(C^#c;))(D^#d;)]", "RABD put rabd")
	begin(t, "(R^#a;^#b#c;^;$#d;)", "R put abc")
	begin(t, "[R[P(A)(B)][Q(C)(D)]]", "RPABQCD")
}

func TestStartDoesActs(t *testing.T) {
	begin(t, "(R^+x3-y4=z5@a7@b1@c9~b;)", "R timers a7c9 x3 y-4 z5")
	begin(t, "(R^!a!b;:b#b>-:a#a>-)", "R put ab")
	begin(t, "(R(A^!a;:a#a>B)(B^!b;:b#b>C)(C^#c;))", "RC put abc")
	begin(t, "(R^+x1;(A^+x1;:.?x=2#k>B)(B))", "RB put k x2")
	begin(t, "(R^#r@a1@a1@a1@a1@a1@a1@a1@a1@b1#n;:z#z>-)", "R timers a1a1a1a1a1a1a1a1 put rz")
}

// What a state at its end tells: the name of a final state's parent, and that of the
// parallel state above it, once all its children are at their ends.
func TestStartAtTheEnd(t *testing.T) {
	begin(t, "(R<A>:R#r>-)", "RA put r")
	begin(t, "(R(A<B>):A#a>-:R#r>-)", "RAB put a")
	begin(t, "[P(A<E>)(C<F>):P#p>-:A#a>-:C#c>-]", "PAECF put acp")
	begin(t, "[P(A<E>)(C):P#p>-:A#a>-]", "PAEC put a")
	begin(t, "[P(A)(C<F>):P#p>-:C#c>-]", "PACF put c")
	begin(t, "[P(A<E>)(C(D)<F>):P#p>-:A#a>-]", "PAECD put a")
	begin(t, "[P[Q(A<E>)(B<F>)](C<G>):P#p>-:Q#q>-:A#a>-:B#b>-:C#c>-]", "PQAEBFCG put abqcp")
	begin(t, "[P(C<G>)[Q(A<E>)(B<F>)]:P#p>-:Q#q>-:A#a>-:B#b>-:C#c>-]", "PCGQAEBF put cabq")
	begin(t, "[P[Q(A<E>)(B)](C<G>):P#p>-:Q#q>-:A#a>-:C#c>-]", "PQAEBCG put ac")
	begin(t, "[P(A(B<E>)):P#p>-:A#a>-:B#b>-]", "PABE put b")
}

func TestStartDoesRounds(t *testing.T) {
	begin(t, "(R:.>R)", " error 9")
	begin(t, "(R:.>-)", " error 9")
	begin(t, "(R^!a;:a!a>-)", " error 9")
	begin(t, "(R:.?x<9+x1#k>-)", "R put kkkkkkkkk x9")
	begin(t, "(R(A^!a;:.>B)(B:a#b>-))", "RB put b")
}

// To enter is no round: thirty more may follow.
func TestStartWithinFuel(t *testing.T) {
	for n := 27; n <= 33; n++ {
		raised := "(R^" + strings.Repeat("!a", n) + ";:b#k>-)"
		heard := "(R^" + strings.Repeat("!a", n) + ";:a#k>-)"
		counted := "(R^-x9-x9" + strings.Repeat("-x1", n-27) + ";:.?x<9+x1>-)"
		if n > 30 {
			begin(t, raised, " error 9")
			begin(t, heard, " error 9")
			begin(t, counted, " error 9")
			continue
		}
		begin(t, raised, "R")
		begin(t, heard, "R put "+strings.Repeat("k", n))
		begin(t, counted, "R x9")
	}
	begin(t, "(R^-x9-x9-x3!a;:.?x<9+x1>-)", " error 9")
	begin(t, "(R^-x9-x9-x2!a;:.?x<9+x1>-)", "R x9")
	begin(t, "(R^-x9-x9-x3;:.?x<9+x1>-:.?y=0>-)", " error 9")
}

func TestMovesHangOnArgumentsAlone(t *testing.T) {
	const text = "(R(P*H(A^+x1@b2;:a#k>B)(B:b!c>A:c#m>-)):q>Q(Q:h>H))"
	var first []string
	for turn := 0; turn < 3; turn++ {
		var now []string
		s, out, e := chart.Start(text)
		now = append(now, show(s, out, e))
		for _, event := range []string{"a", "q", "h", "b", "a", "z"} {
			kept := s
			s, out, e = chart.Fire(text, s, event)
			now = append(now, show(s, out, e))
			u, out, e := chart.Wait(text, kept)
			now = append(now, show(u, out, e))
		}
		if turn == 0 {
			first = now
		}
		if strings.Join(now, ";") != strings.Join(first, ";") {
			t.Errorf("P2: the same calls answer %v, then %v", first, now)
		}
		chart.Start("(R:.>R)")
		chart.Fire("(R:a=x9!a>-)", api.State{Active: "R"}, "a")
	}
}
