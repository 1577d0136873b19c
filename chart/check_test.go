package chart_test

import (
	"strings"
	"testing"

	"chart/api"
	"chart/chart"
)

// sixteen has as many states as a chart may have, but lacks its last bracket.
const sixteen = "(A(B)(C)(D)(E)(F)(G)(H)(I)(J)(K)(L)(M)(N)(O)(P)"

type checkCase struct {
	text string
	e    api.Errno
	at   int
}

func runCheck(t *testing.T, cases []checkCase) {
	t.Helper()
	for _, c := range cases {
		if e, at := chart.Check(c.text); e != c.e || at != c.at {
			t.Errorf("Check(%.80q) = %d, %d, want %d, %d", c.text, e, at, c.e, c.at)
		}
	}
}

func TestCheckExamples(t *testing.T) {
	runCheck(t, []checkCase{
		{"(A)", api.OK, 0},
		{"[A(B)]", api.OK, 0},
		{"(R(A:a>B)(B^+x1;:a?x<3#k>A))", api.OK, 0},
		{"(R(P*H(A:a>B)(B:a>A)):q>Q(Q:h>H))", api.OK, 0},
		{"", api.ErrSyntax, 0},
		{"(A", api.ErrSyntax, 2},
		{"(A))", api.ErrSyntax, 3},
		{"<A>", api.ErrSyntax, 0},
		{"(A:a>B)", api.ErrName, 5},
		{"(A(A))", api.ErrTwice, 3},
		{"[A]", api.ErrShape, 1},
		{"(A*H)", api.ErrShape, 1},
		{"[A<B>]", api.ErrShape, 3},
		{"(A:a@b0>-)", api.ErrSyntax, 6},
		{"(R(A:a>B#k)(B:b>A))", api.ErrSyntax, 8},
	})
}

func TestCheckTakesCharts(t *testing.T) {
	for _, text := range []string{
		"(Z)", "(A<Z>)", "(A(B)(C)<D>*E)", "(A*H*I(B))", "[A(B)[C(D)]]", "(A[B(C)])",
		"(A^;)", "(A$;)", "(A^;^;$;$;)", "(A^!a~z#m@a1@z9+x0-y9=z5;)",
		"(A:a>-)", "(A:z>A)", "(A:.>A)", "(A:A>A)", "(A:a?x<0>-)", "(A:a?y=9>-)", "(A:a?z>5>-)",
		"(A:a!a@b1~c+x0-y9=z5#d>-)", "(A:.?x>1-x1>-)", "(A:a>B^;(B)$;:b>A)", "(A:H>H(B)*H)",
		"(A:a-x1>-)", "(A:a=x1>-)",
	} {
		runCheck(t, []checkCase{{text, api.OK, 0}})
	}
}

func TestCheckLong(t *testing.T) {
	runCheck(t, []checkCase{
		{"(A" + strings.Repeat("^;", 118) + ")", api.OK, 0},
		{"(A" + strings.Repeat("^;", 117) + "^~a;)", api.ErrLong, 0},
		{"(A:a>-" + strings.Repeat("^;", 116) + "A", api.ErrSyntax, 238},
		{"(A:a>-" + strings.Repeat("^;", 116) + "))", api.ErrSyntax, 239},
		{"(A:a#b>-" + strings.Repeat("^;", 115) + "$;", api.ErrSyntax, 240},
		{"(A:a#b>-" + strings.Repeat("^;", 115) + "$;)", api.ErrLong, 0},
		{strings.Repeat("?", 240), api.ErrSyntax, 0},
		{strings.Repeat("?", 241), api.ErrLong, 0},
	})
}

func TestCheckSyntaxOfStates(t *testing.T) {
	runCheck(t, []checkCase{
		{"*A", api.ErrSyntax, 0}, {"A", api.ErrSyntax, 0}, {":a>-", api.ErrSyntax, 0},
		{"(", api.ErrSyntax, 1}, {"[", api.ErrSyntax, 1}, {"()", api.ErrSyntax, 1}, {"(a)", api.ErrSyntax, 1}, {"(1)", api.ErrSyntax, 1},
		{"(@)", api.ErrSyntax, 1}, {"([)", api.ErrSyntax, 1},
		{"(A]", api.ErrSyntax, 2}, {"[A)", api.ErrSyntax, 2}, {"(A>", api.ErrSyntax, 2}, {"(AB)", api.ErrSyntax, 2}, {"(A-)", api.ErrSyntax, 2},
		{"(A(B]", api.ErrSyntax, 4}, {"[A(B))", api.ErrSyntax, 5}, {"([A(B)])", api.ErrSyntax, 1},
		{"(A<", api.ErrSyntax, 3}, {"(A<B", api.ErrSyntax, 4}, {"(A<B)", api.ErrSyntax, 4}, {"(A<B:a>->)", api.ErrSyntax, 4}, {"(A<>)", api.ErrSyntax, 3},
		{"(A*", api.ErrSyntax, 3}, {"(A*)", api.ErrSyntax, 3}, {"(A*B*)", api.ErrSyntax, 5}, {"(A*BC)", api.ErrSyntax, 4},
		{"(A)(B)", api.ErrSyntax, 3}, {"(A):a>-", api.ErrSyntax, 3}, {"(A)\n", api.ErrSyntax, 3},
		{" (A)", api.ErrSyntax, 0}, {"( A)", api.ErrSyntax, 1}, {"(A )", api.ErrSyntax, 2},
		{"\x00", api.ErrSyntax, 0}, {"(\x00", api.ErrSyntax, 1}, {"(A\x00", api.ErrSyntax, 2}, {"(A)\x00", api.ErrSyntax, 3}, {"(Ä)", api.ErrSyntax, 1}, {"(A\xff)", api.ErrSyntax, 2},
	})
}

func TestCheckSyntaxOfTransitions(t *testing.T) {
	runCheck(t, []checkCase{
		{"(A:", api.ErrSyntax, 3}, {"(A:)", api.ErrSyntax, 3}, {"(A:->A)", api.ErrSyntax, 3}, {"(A:1>A)", api.ErrSyntax, 3}, {"(A:?x<1>A)", api.ErrSyntax, 3},
		{"(A:`>A)", api.ErrSyntax, 3}, {"(A:{>A)", api.ErrSyntax, 3},
		{"(A:a", api.ErrSyntax, 4}, {"(A:aa>A)", api.ErrSyntax, 4}, {"(A:a<1>A)", api.ErrSyntax, 4}, {"(A:a)", api.ErrSyntax, 4}, {"(A:a;", api.ErrSyntax, 4},
		{"(A:a>", api.ErrSyntax, 5}, {"(A:a>.)", api.ErrSyntax, 5}, {"(A:a>b)", api.ErrSyntax, 5}, {"(A:a>AA)", api.ErrSyntax, 6}, {"(A:a>--)", api.ErrSyntax, 6},
		{"(A:a?", api.ErrSyntax, 5}, {"(A:a?w<1>A)", api.ErrSyntax, 5}, {"(A:a?{<1>A)", api.ErrSyntax, 5}, {"(A:a?X<1>A)", api.ErrSyntax, 5},
		{"(A:a?x", api.ErrSyntax, 6}, {"(A:a?x;1>A)", api.ErrSyntax, 6}, {"(A:a?x?1>A)", api.ErrSyntax, 6},
		{"(A:a?x<", api.ErrSyntax, 7}, {"(A:a?x</>A)", api.ErrSyntax, 7}, {"(A:a?x<:>A)", api.ErrSyntax, 7}, {"(A:a?x<=1>A)", api.ErrSyntax, 7}, {"(A:a?x<-1>A)", api.ErrSyntax, 7},
		{"(A:a?x<10>A)", api.ErrSyntax, 8}, {"(A:a?x<1?y<1>A)", api.ErrSyntax, 8}, {"(A:a#b?x<1>A)", api.ErrSyntax, 6},
	})
}

func TestCheckSyntaxOfBlocksAndActs(t *testing.T) {
	runCheck(t, []checkCase{
		{"(A^", api.ErrSyntax, 3}, {"(A^)", api.ErrSyntax, 3}, {"(A$)", api.ErrSyntax, 3}, {"(A^>", api.ErrSyntax, 3}, {"(A^$;)", api.ErrSyntax, 3}, {"(A^?x<1;)", api.ErrSyntax, 3}, {"(A;)", api.ErrSyntax, 2}, {"(A!a)", api.ErrSyntax, 2},
		{"(A^!", api.ErrSyntax, 4}, {"(A^!A;)", api.ErrSyntax, 4}, {"(A^~1;)", api.ErrSyntax, 4}, {"(A^#.;)", api.ErrSyntax, 4}, {"(A^!;)", api.ErrSyntax, 4},
		{"(A^@", api.ErrSyntax, 4}, {"(A^@a", api.ErrSyntax, 5}, {"(A^@a0;)", api.ErrSyntax, 5}, {"(A^@a:;)", api.ErrSyntax, 5}, {"(A^@a;)", api.ErrSyntax, 5}, {"(A^@a12;)", api.ErrSyntax, 6}, {"(A^@1a;)", api.ErrSyntax, 4},
		{"(A^+", api.ErrSyntax, 4}, {"(A^+w1;)", api.ErrSyntax, 4}, {"(A^-{1;)", api.ErrSyntax, 4}, {"(A^=x", api.ErrSyntax, 5}, {"(A^=xy;)", api.ErrSyntax, 5}, {"(A^=x12;)", api.ErrSyntax, 6}, {"(A^+x-1;)", api.ErrSyntax, 5},
		{"(A:a->A)", api.ErrSyntax, 5}, {"(A:a!a", api.ErrSyntax, 6}, {"(A:a!a)", api.ErrSyntax, 6}, {"(A^!a)", api.ErrSyntax, 5}, {"(A^!a>", api.ErrSyntax, 5},
	})
}

func TestCheckMany(t *testing.T) {
	runCheck(t, []checkCase{
		{sixteen + ")", api.OK, 0},
		{sixteen + "(Q))", api.ErrMany, 48},
		{sixteen + "*Q)", api.ErrMany, 48},
		{sixteen + "<Q>)", api.ErrMany, 48},
		{sixteen + "[Q(R)])", api.ErrMany, 48},
		{sixteen + ":a>-(Q)(R)(S))", api.ErrMany, 52},
		{"(A" + strings.Repeat("*H", 14) + "(B))", api.ErrTwice, 5},
		{"(A" + strings.Repeat("*H", 15) + "(B))", api.ErrMany, 33},
		{strings.Repeat("(A", 80) + strings.Repeat(")", 80), api.ErrMany, 33},
	})
}

func TestCheckTwice(t *testing.T) {
	runCheck(t, []checkCase{
		{"(A(B)(C)(B)(C))", api.ErrTwice, 9},
		{"(A(B)(C)(C)(B))", api.ErrTwice, 9},
		{"(A*B(B))", api.ErrTwice, 5},
		{"(A(B)<B>)", api.ErrTwice, 6},
		{"(A(B)*A)", api.ErrTwice, 6},
		{"(A(B(C))(D(C)))", api.ErrTwice, 11},
		{"(A:b>A(B:b>B))", api.OK, 0},
	})
}

func TestCheckShape(t *testing.T) {
	runCheck(t, []checkCase{
		{"[A:a>-^;]", api.ErrShape, 1},
		{"(A(B)[C])", api.ErrShape, 6},
		{"[A*H]", api.ErrShape, 1},
		{"[A*H(B)]", api.ErrShape, 3},
		{"[A(B)*H]", api.ErrShape, 6},
		{"[A(B)<C>]", api.ErrShape, 6},
		{"[A<B><C>]", api.ErrShape, 3},
		{"(A*H*I)", api.ErrShape, 1},
		{"(A(B*H)(C))", api.ErrShape, 3},
		{"(A*H<B>)", api.OK, 0},
		{"(A*H[B(C)])", api.OK, 0},
		{"[A(B<C>)(D*H(E))]", api.OK, 0},
		{"(A(B<C>*H))", api.OK, 0},
	})
}

func TestCheckName(t *testing.T) {
	runCheck(t, []checkCase{
		{"(A:B>-)", api.ErrName, 3},
		{"(A:a>Z)", api.ErrName, 5},
		{"(A:a?x<1#b>Z)", api.ErrName, 11},
		{"(A:A>A(B:B>A:a>D)(C:E>-))", api.ErrName, 15},
		{"(A:b>B:c>C(B))", api.ErrName, 9},
		{"(A(B:.>H)*H<F>:F>F)", api.OK, 0},
		{"(A:a>B(B))", api.OK, 0},
	})
}

// Both errors of each text apply; P1 asks for the one that P3 names first.
func TestCheckNamesTheFirstError(t *testing.T) {
	tooMany := strings.Repeat("(A", 60)
	runCheck(t, []checkCase{
		{strings.Repeat("(A", 121), api.ErrLong, 0},
		{"(A" + strings.Repeat("^;", 119) + ":a>Z)", api.ErrLong, 0},
		{tooMany, api.ErrSyntax, 120},
		{"(A(A)", api.ErrSyntax, 5},
		{"[A", api.ErrSyntax, 2},
		{"[A])", api.ErrSyntax, 3},
		{"(A:B>C", api.ErrSyntax, 6},
		{sixteen + "(A))", api.ErrMany, 48},
		{"(A(A)" + sixteen[5:] + "(Q)(R))", api.ErrMany, 48},
		{"[A<B>" + sixteen[5:] + "(Q)]", api.ErrMany, 48},
		{"(A:a>Z" + sixteen[2:] + "(Q))", api.ErrMany, 52},
		{"[A<B>(A)]", api.ErrTwice, 6},
		{"(A:a>Z(A))", api.ErrTwice, 7},
		{"(A:a>Z[B])", api.ErrShape, 7},
		{"(A:Z>Y)", api.ErrName, 3},
	})
}
