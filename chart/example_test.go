package chart_test

import (
	"fmt"

	"chart/api"
	"chart/chart"
)

func ExampleCheck() {
	fmt.Println(chart.Check("(R(A:a>B)(B^+x1;:a?x<3#k>A))"))
	fmt.Println(chart.Check("(A:a>B)"))
	// Output:
	// 0 0
	// 6 5
}

func ExampleTree() {
	nodes, e := chart.Tree("(R*H[P(A)(B)])")
	fmt.Println(e)
	for _, n := range nodes {
		fmt.Println(n.Name, n.Kind, n.Parent)
	}
	// Output:
	// 0
	// R 2 -1
	// H 5 0
	// P 3 0
	// A 1 2
	// B 1 2
}

func ExampleFire() {
	const text = "(R(A:a>B)(B^+x1;:a?x<3#k>A))"
	s, out, e := chart.Start(text)
	fmt.Printf("%s %d %q %d\n", s.Active, s.X, out, e)
	for i := 0; i < 2; i++ {
		s, out, e = chart.Fire(text, s, "a")
		fmt.Printf("%s %d %q %d\n", s.Active, s.X, out, e)
	}
	// Output:
	// RA 0 "" 0
	// RB 1 "" 0
	// RA 1 "k" 0
}

func ExampleWait() {
	const text = "(R(A:a@b2>-:b#k>B)(B))"
	s, out, _ := chart.Start(text)
	s, out, _ = chart.Fire(text, s, "a")
	fmt.Printf("%s %q %q\n", s.Active, s.Timers, out)
	for i := 0; i < 2; i++ {
		s, out, _ = chart.Wait(text, s)
		fmt.Printf("%s %q %q\n", s.Active, s.Timers, out)
	}
	// Output:
	// RA "b2" ""
	// RA "b1" ""
	// RB "" "k"
}

func ExampleService() {
	x, _ := chart.New("(R(A:a#k>B)(B:b#l>A))", 2)
	x.Ask(0, api.Request{Kind: api.Send, Events: "ab", At: -1})
	x.Ask(1, api.Request{Kind: api.Read, At: -1})
	for _, u := range []int{0, 0, 1, 0, 1, 1} {
		r, done, _ := x.Step(u)
		fmt.Printf("%d %v %d %d %q %q\n", u, done, r.Version, r.Index, r.State.Active, r.Text)
	}
	fmt.Println(x.Versions())
	// Output:
	// 0 false 0 0 "" ""
	// 0 false 0 0 "" ""
	// 1 false 0 0 "" ""
	// 0 true 1 2 "" "kl"
	// 1 false 0 0 "" ""
	// 1 true 0 0 "RA" ""
	// [0 1]
}
