package chart_test

import (
	"slices"
	"strings"
	"testing"

	"chart/api"
	"chart/chart"
)

func node(name string, kind, parent int) api.Node {
	return api.Node{Name: name, Kind: kind, Parent: parent}
}

func TestTree(t *testing.T) {
	for _, c := range []struct {
		text string
		want []api.Node
	}{
		{"(R*H[P(A)(B)])", []api.Node{node("R", api.Compound, -1), node("H", api.History, 0), node("P", api.Parallel, 0), node("A", api.Plain, 2), node("B", api.Plain, 2)}},
		{"(Z)", []api.Node{node("Z", api.Plain, -1)}},
		{"(Z:a>Z^#q;$;)", []api.Node{node("Z", api.Plain, -1)}},
		{"[A(B)]", []api.Node{node("A", api.Parallel, -1), node("B", api.Plain, 0)}},
		{"(A<B>)", []api.Node{node("A", api.Compound, -1), node("B", api.Final, 0)}},
		{"(A(B(C(D)))<E>)", []api.Node{node("A", api.Compound, -1), node("B", api.Compound, 0), node("C", api.Compound, 1), node("D", api.Plain, 2), node("E", api.Final, 0)}},
		{"(C(B(A))*H(D))", []api.Node{node("C", api.Compound, -1), node("B", api.Compound, 0), node("A", api.Plain, 1), node("H", api.History, 0), node("D", api.Plain, 0)}},
		{"(A:B>C(B^;(C:a?x>1>-))$;*D)", []api.Node{node("A", api.Compound, -1), node("B", api.Compound, 0), node("C", api.Plain, 1), node("D", api.History, 0)}},
	} {
		l, e := chart.Tree(c.text)
		if e != api.OK || !slices.Equal(l, c.want) {
			t.Errorf("P4: Tree(%q) = %v, %d, want %v", c.text, l, e, c.want)
		}
	}
}

func TestTreeOfSixteen(t *testing.T) {
	l, e := chart.Tree(sixteen + ")")
	if e != api.OK || len(l) != api.MaxStates {
		t.Fatalf("P4: %d states, error %d", len(l), e)
	}
	for i, n := range l {
		want := node(string(rune('A'+i)), api.Plain, 0)
		if i == 0 {
			want = node("A", api.Compound, -1)
		}
		if n != want {
			t.Errorf("P4: state %d is %v, want %v", i, n, want)
		}
	}
}

func TestTreeErrors(t *testing.T) {
	for _, c := range []struct {
		text string
		e    api.Errno
	}{
		{strings.Repeat("(", 241), api.ErrLong}, {"", api.ErrSyntax}, {"(A", api.ErrSyntax}, {sixteen + "(Q))", api.ErrMany},
		{"(A(A))", api.ErrTwice}, {"[A]", api.ErrShape}, {"(A(B)(C*H))", api.ErrShape}, {"(A(B:a>C))", api.ErrName},
	} {
		if l, e := chart.Tree(c.text); l != nil || e != c.e {
			t.Errorf("P1, P4: Tree(%.40q) = %v, %d, want nil, %d", c.text, l, e, c.e)
		}
	}
}

// scribble writes into a list and into its spare room.
func scribble(l []api.Node) {
	l = l[:cap(l)]
	for i := range l {
		l[i] = api.Node{Name: "?", Kind: 99, Parent: 99}
	}
}

func TestTreeIsNewMemory(t *testing.T) {
	const text, other = "(R*H[P(A)(B)])", "[Z(Y)(X(W))]"
	want, _ := wantTree(text)
	kept, _ := chart.Tree(text)
	written, _ := chart.Tree(text)
	scribble(written)
	if !slices.Equal(kept, want) {
		t.Errorf("P2: an earlier answer became %v when a later one was written into", kept)
	}
	again, e := chart.Tree(text)
	if e != api.OK || !slices.Equal(again, want) {
		t.Errorf("P2: Tree = %v, %d, behind its earlier answer was written into", again, e)
	}
	chart.Tree(other)
	chart.Check(other)
	chart.Tree("(A(A))")
	if !slices.Equal(kept, want) || !slices.Equal(again, want) {
		t.Errorf("P2: later calls changed answers: %v, %v", kept, again)
	}
	for _, n := range written {
		if n.Kind != 99 {
			t.Errorf("P2: a later call changed what the caller wrote: %v", written)
		}
	}
}

func TestAnswersHangOnArgumentsAlone(t *testing.T) {
	texts := []string{"(A)", "", "(R*H[P(A)(B)])", "[A]", "(A(A))", strings.Repeat("(", 300), "(A:a>B)", sixteen + "(Q))", sixteen + ")"}
	for _, before := range texts {
		for _, text := range texts {
			chart.Check(before)
			chart.Tree(before)
			compare(t, text)
		}
	}
}
