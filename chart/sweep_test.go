package chart_test

import (
	"math/rand"
	"slices"
	"strings"
	"testing"

	"chart/api"
	"chart/chart"
)

// compare holds Check and Tree against the oracle, and tells the error.
func compare(t *testing.T, text string) api.Errno {
	t.Helper()
	e, at := chart.Check(text)
	if we, wat := wantCheck(text); e != we || at != wat {
		t.Fatalf("P3: Check(%q) = %d, %d, want %d, %d", text, e, at, we, wat)
	}
	l, e := chart.Tree(text)
	if wl, we := wantTree(text); e != we || !slices.Equal(l, wl) || (l == nil) != (wl == nil) {
		t.Fatalf("P4: Tree(%q) = %v, %d, want %v, %d", text, l, e, wl, we)
	}
	return e
}

var seeds = []string{
	"(A)", "[A(B)]", "(R(A:a>B)(B^+x1;:a?x<3#k>A))", "(R(P*H(A:a>B)(B:a>A)):q>Q(Q:h>H))",
	"(R[P(A(B:a>E)<E>)(C(D:b>F)<F>):P#k>-])", "(R(A:a@b2>-:b>B)(B))", "(R:.>R)",
	"(A^;$;^!a@b9~c=z0-y9#q;:z?z>9>A:.?y=0>-:A>A)", "(A*H(B)*I)", "[Z[Y(X)][W(V)]]",
	sixteen + ")", "(A(B[C(D)])(E<F>*G))",
}

// Every byte in every place of good charts: laid over what is there, laid between, cut behind.
func TestSweepOfChangedBytes(t *testing.T) {
	for _, s := range seeds {
		for i := 0; i <= len(s); i++ {
			compare(t, s[:i])
			compare(t, s[i:])
			for b := 0; b < 256; b++ {
				c := string([]byte{byte(b)})
				compare(t, s[:i]+c)
				compare(t, s[:i]+c+s[i:])
				if i < len(s) {
					compare(t, s[:i]+c+s[i+1:])
				}
			}
		}
	}
}

// All short texts whose bytes but the last can stand there.
func TestSweepOfShortTexts(t *testing.T) {
	const some = "([<*AZaxz019:?=>!@+-^;)]. \x00"
	front := []string{""}
	for n := 1; n <= 7; n++ {
		var next []string
		for _, p := range front {
			for i := 0; i < len(some); i++ {
				text := p + some[i:i+1]
				compare(t, text)
				if f := see(text).fault; f < 0 || f == len(text) {
					next = append(next, text)
				}
			}
		}
		front = next
	}
}

// maker makes texts of the right syntax, good charts and others.
type maker struct {
	r     *rand.Rand
	names string
	next  int
}

func (m *maker) pick(of string) string {
	i := m.r.Intn(len(of))
	return of[i : i+1]
}

func (m *maker) freshName() string {
	if m.r.Intn(60) == 0 {
		return m.pick(upper)
	}
	m.next++
	return upper[m.next%26 : m.next%26+1]
}

func (m *maker) act() string {
	switch m.r.Intn(3) {
	case 0:
		return m.pick("!~#") + m.pick(lower)
	case 1:
		return "@" + m.pick(lower) + m.pick(digits[1:])
	}
	return m.pick("+-=") + m.pick("xyz") + m.pick(digits)
}

func (m *maker) acts() string {
	s := ""
	for m.r.Intn(3) == 0 {
		s += m.act()
	}
	return s
}

func (m *maker) transition() string {
	s := ":" + m.pick(m.pick(lower)+m.pick(m.names)+".")
	if m.r.Intn(3) == 0 {
		s += "?" + m.pick("xyz") + m.pick("<=>") + m.pick(digits)
	}
	return s + m.acts() + ">" + m.pick(m.pick(m.names)+"-")
}

func (m *maker) state(depth int) string {
	pair := m.pick("(((([")
	s := pair + m.freshName()
	for n := m.r.Intn(5); n > 0; n-- {
		switch m.r.Intn(7) {
		case 0:
			s += m.transition()
		case 1:
			s += m.pick("^$") + m.acts() + ";"
		case 2:
			s += "*" + m.freshName()
		case 3:
			s += "<" + m.freshName() + ">"
		default:
			if depth > 0 {
				s += m.state(depth - 1)
			}
		}
	}
	if pair == "(" {
		return s + ")"
	}
	return s + "]"
}

func TestSweepOfMadeCharts(t *testing.T) {
	m := maker{r: rand.New(rand.NewSource(1))}
	met := map[api.Errno]int{}
	for i := 0; i < 60000; i++ {
		m.next = m.r.Intn(26)
		m.names = upper[m.r.Intn(13):]
		text := m.state(m.r.Intn(6))
		met[compare(t, text)]++
		met[compare(t, text[:m.r.Intn(len(text))])]++
	}
	for e := api.OK; e <= api.ErrName; e++ {
		if met[e] < 10 {
			t.Errorf("the sweep met error %d only %d times", e, met[e])
		}
	}
}

func TestTextsOfAnyLength(t *testing.T) {
	for _, piece := range []string{"(", "[", "(A", "[A", "(A)", "*A", "<A>", ":a>-", "^;", "^+x1", "\x00", "\xff", "é"} {
		for n := 0; n <= 242; n++ {
			compare(t, strings.Repeat(piece, n))
			compare(t, "(A"+strings.Repeat(piece, n)+")")
		}
		if e, at := chart.Check(strings.Repeat(piece, 5000000)); e != api.ErrLong || at != 0 {
			t.Errorf("P1, P3: Check(%q and so on) = %d, %d, want %d, 0", piece, e, at, api.ErrLong)
		}
		if l, e := chart.Tree(strings.Repeat(piece, 5000000)); e != api.ErrLong || l != nil {
			t.Errorf("P1, P4: Tree(%q and so on) = %v, %d, want nil, %d", piece, l, e, api.ErrLong)
		}
	}
}
