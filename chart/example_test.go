package chart_test

import (
	"fmt"

	"chart/chart"
)

func ExampleCheck() {
	fmt.Println(chart.Check("(R(A:a>B)(B^+x1;:a?x<3#k>A))"))
	fmt.Println(chart.Check("(A:a>B)"))
	// Output:
	// 0 0
	// 6 5
}

func ExampleTree() {
	nodes, e := chart.Tree("(R*H[P(A)(B)])")
	fmt.Println(e)
	for _, n := range nodes {
		fmt.Println(n.Name, n.Kind, n.Parent)
	}
	// Output:
	// 0
	// R 2 -1
	// H 5 0
	// P 3 0
	// A 1 2
	// B 1 2
}
