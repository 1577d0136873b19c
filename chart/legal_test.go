package chart_test

import (
	"math"
	"strings"
	"testing"

	"chart/api"
	"chart/chart"
)

const (
	shapes = "(R*G(P*H(A)(B)*I)[Q(C(D)<E>)(F)(S(T))]<U>)"
	plain  = "(R)"
)

func TestLegalActive(t *testing.T) {
	for _, c := range []struct{ text, good, bad string }{
		{plain, "R", " RR A r - Ra R\x00"},
		{"(R(A)(B))", "RA RB", " R A B RAB RBA AR RR RRA RAA RC R* RA- ra"},
		{"[R(A)(B)]", "RAB", " R RA RB AB RBA ARB RABB RAAB RABR RAC"},
		{"(R(A(B)(C))(D))", "RAB RAC RD", " RA RB RC RAD RBD RABC RABD AB ABR RBA RDA"},
		{"(R*H(A)(B))", "RA RB", " R RH RHA RHB RAH RAB"},
		{"(R[P(A(B)<E>)(C)](Q))", "RPABC RPAEC RQ", " RP RPA RPAC RPAB RPABE RPABEC RPABCQ RPC RPCAB RABC RPABQ RQPABC"},
		{"(Z(Y(X)))", "ZYX", " XYZ Z ZY ZX ZXY YX"},
		{"[R[P(A)(B)][Q(C)(D)]]", "RPABQCD", " RPQ RPABQC RPABQD RPAQCD RPAB RQCDPAB"},
	} {
		past := ""
		if strings.Contains(c.text, "*") {
			past = "-"
		}
		for _, a := range strings.Split(c.good, " ") {
			if e := chart.Legal(c.text, api.State{Active: a, Past: past}); e != api.OK {
				t.Errorf("P5: Legal(%q, %q) = %d, want 0", c.text, a, e)
			}
		}
		for _, a := range strings.Split(c.bad, " ") {
			if e := chart.Legal(c.text, api.State{Active: a, Past: past}); e != api.ErrState {
				t.Errorf("P5: Legal(%q, %q) = %d, want %d", c.text, a, e, api.ErrState)
			}
		}
	}
}

// The histories of shapes are G, whose parent has the children P, Q and U, and H and
// I, whose parent has the children A and B.
func TestLegalPast(t *testing.T) {
	for _, p := range []string{"---", "PAB", "QBA", "UAA", "-B-", "P--", "--A"} {
		if e := chart.Legal(shapes, api.State{Active: "RU", Past: p}); e != api.OK {
			t.Errorf("P5: Legal(.., Past %q) = %d, want 0", p, e)
		}
	}
	for _, p := range []string{"", "-", "--", "----", "R--", "G--", "H--", "A--", "C--", "-P-", "-H-", "-I-", "--G", "-R-", "-C-", "--D", "-a-", "-\x00-", "V--", "P-- ", "AA-"} {
		if e := chart.Legal(shapes, api.State{Active: "RU", Past: p}); e != api.ErrState {
			t.Errorf("P5: Legal(.., Past %q) = %d, want %d", p, e, api.ErrState)
		}
	}
	for _, p := range []string{"-", "R", "--"} {
		if e := chart.Legal(plain, api.State{Active: "R", Past: p}); e != api.ErrState {
			t.Errorf("P5: Legal(%q, Past %q) = %d, want %d", plain, p, e, api.ErrState)
		}
	}
}

func TestLegalTimers(t *testing.T) {
	for _, s := range []string{"", "a1", "z9", "a1a1", "b2a1", strings.Repeat("q5", 8)} {
		if e := chart.Legal(plain, api.State{Active: "R", Timers: s}); e != api.OK {
			t.Errorf("P5: Legal(.., Timers %q) = %d, want 0", s, e)
		}
	}
	for _, s := range []string{"a", "1", "a0", "a:", "a/", "`1", "{1", "A1", "11", "aa", "a1b", "a10", "a1b0", "a1,b1", " a1", "a1 ", "\x001", "a1\xff1", strings.Repeat("q5", 9), strings.Repeat("q5", 8) + "q"} {
		if e := chart.Legal(plain, api.State{Active: "R", Timers: s}); e != api.ErrState {
			t.Errorf("P5: Legal(.., Timers %q) = %d, want %d", s, e, api.ErrState)
		}
	}
	for i := 0; i < 65536; i++ {
		a, d := byte(i>>8), byte(i)
		want := api.ErrState
		if a >= 'a' && a <= 'z' && d >= '1' && d <= '9' {
			want = api.OK
		}
		if e := chart.Legal(plain, api.State{Active: "R", Timers: "b3" + string([]byte{a, d})}); e != want {
			t.Fatalf("P5: Legal(.., Timers b3 and bytes %d, %d) = %d, want %d", a, d, e, want)
		}
	}
}

func TestLegalVariables(t *testing.T) {
	for _, n := range []int{0, 1, -1, 98, 99, 100, 101, -98, -99, -100, 1 << 40, -1 << 40, math.MaxInt, math.MinInt} {
		want := api.ErrState
		if n >= -99 && n <= 99 {
			want = api.OK
		}
		for i, s := range []api.State{{Active: "R", X: n}, {Active: "R", Y: n}, {Active: "R", Z: n}} {
			if e := chart.Legal(plain, s); e != want {
				t.Errorf("P5: Legal(.., variable %d is %d) = %d, want %d", i, n, e, want)
			}
		}
	}
}

// Every text that is no chart answers its own error in all calls, whatever else is wrong.
func TestErrorsOfTextsInAllCalls(t *testing.T) {
	for _, c := range []struct {
		text string
		want api.Errno
	}{
		{strings.Repeat("(", 241), api.ErrLong}, {"(R" + strings.Repeat(":a>-", 60) + ")", api.ErrLong},
		{"", api.ErrSyntax}, {"(R", api.ErrSyntax}, {"(R))", api.ErrSyntax}, {"(R:a@b0>-)", api.ErrSyntax}, {"<R>", api.ErrSyntax},
		{sixteen + "(Q))", api.ErrMany}, {"(R(R))", api.ErrTwice}, {"[R]", api.ErrShape}, {"(R*H)", api.ErrShape}, {"(R:a>B)", api.ErrName}, {"(R:B>-)", api.ErrName},
	} {
		for _, s := range []api.State{{}, {Active: "R"}, {Active: "RR", Past: "x", Timers: "1", X: 100}} {
			if e := chart.Legal(c.text, s); e != c.want {
				t.Errorf("P5: Legal(%.20q, ..) = %d, want %d", c.text, e, c.want)
			}
			for _, event := range []string{"a", "", "A"} {
				if u, o, e := chart.Fire(c.text, s, event); u != (api.State{}) || o != "" || e != c.want {
					t.Errorf("P7: Fire(%.20q, ..) = %v, %q, %d, want error %d", c.text, u, o, e, c.want)
				}
			}
			if u, o, e := chart.Wait(c.text, s); u != (api.State{}) || o != "" || e != c.want {
				t.Errorf("P8: Wait(%.20q, ..) = %v, %q, %d, want error %d", c.text, u, o, e, c.want)
			}
		}
		if u, o, e := chart.Start(c.text); u != (api.State{}) || o != "" || e != c.want {
			t.Errorf("P6: Start(%.20q) = %v, %q, %d, want error %d", c.text, u, o, e, c.want)
		}
	}
}

// A wrong state goes ahead of a wrong event, and a wrong event ahead of too many rounds.
func TestErrorsInTheirOrder(t *testing.T) {
	const endless = "(R:.>-)"
	wrong := []api.State{{}, {Active: "A"}, {Active: "R", Past: "-"}, {Active: "R", Timers: "a0"}, {Active: "R", X: 100}, {Active: "R", Y: -100}, {Active: "R", Z: 100}}
	for _, s := range wrong {
		for _, event := range []string{"a", "", "A", "ab"} {
			if u, o, e := chart.Fire(endless, s, event); u != (api.State{}) || o != "" || e != api.ErrState {
				t.Errorf("P7: Fire(.., %+v, %q) = %v, %q, %d, want %d", s, event, u, o, e, api.ErrState)
			}
		}
		if u, o, e := chart.Wait(endless, s); u != (api.State{}) || o != "" || e != api.ErrState {
			t.Errorf("P8: Wait(.., %+v) = %v, %q, %d, want %d", s, u, o, e, api.ErrState)
		}
	}
	for _, event := range []string{"", "A", "ab", "aa", ".", "`", "{", " a", "a ", "0", "-", "\x00", "\xe1", "é", strings.Repeat("a", 5000000)} {
		if u, o, e := chart.Fire(endless, api.State{Active: "R"}, event); u != (api.State{}) || o != "" || e != api.ErrEvent {
			t.Errorf("P7: Fire(.., %.9q) = %v, %q, %d, want %d", event, u, o, e, api.ErrEvent)
		}
	}
	if u, o, e := chart.Fire(endless, api.State{Active: "R"}, "a"); u != (api.State{}) || o != "" || e != api.ErrFuel {
		t.Errorf("P7: Fire(%q) = %v, %q, %d, want %d", endless, u, o, e, api.ErrFuel)
	}
}

func TestEveryByteAsEvent(t *testing.T) {
	for b := 0; b < 256; b++ {
		want := api.ErrEvent
		if b >= 'a' && b <= 'z' {
			want = api.OK
		}
		if _, _, e := chart.Fire(plain, api.State{Active: "R"}, string([]byte{byte(b)})); e != want {
			t.Errorf("P7: Fire(.., byte %d) = %d, want %d", b, e, want)
		}
	}
}

func TestStatesOfAnyLength(t *testing.T) {
	long := func(s string) string { return strings.Repeat(s, 3000000) }
	for _, s := range []api.State{
		{Active: long("R")}, {Active: "R" + long("A")}, {Active: "R", Past: long("-")}, {Active: "R", Timers: long("a1")},
		{Active: long("R"), Past: long("-"), Timers: long("a1"), X: math.MinInt, Y: math.MaxInt, Z: math.MinInt},
	} {
		if e := chart.Legal(plain, s); e != api.ErrState {
			t.Errorf("P1, P5: Legal of long texts = %d, want %d", e, api.ErrState)
		}
		if u, o, e := chart.Fire(plain, s, long("a")); u != (api.State{}) || o != "" || e != api.ErrState {
			t.Errorf("P1, P7: Fire of long texts = %d, want %d", e, api.ErrState)
		}
		if u, o, e := chart.Wait(plain, s); u != (api.State{}) || o != "" || e != api.ErrState {
			t.Errorf("P1, P8: Wait of long texts = %d, want %d", e, api.ErrState)
		}
	}
}
