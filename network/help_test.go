package network

import (
	"math"
	"reflect"
	"slices"
	"testing"

	"assign/api"
)

// far: numbers that are beside every edge, the ends of int among them.
var far = []int{math.MinInt, math.MinInt + 1, -1 << 32, 1 << 32, math.MaxInt - 1, math.MaxInt}

// asked: what one Check is asked.
type asked struct {
	n            api.Net
	flow, prices []int
}

// two: the document's example.
func two() asked {
	arcs := []api.Arc{{From: 0, To: 1, Cap: 1, Cost: 4}, {From: 0, To: 1, Cap: 1, Cost: 5}}
	return asked{api.Net{Nodes: 2, Supply: []int{1, -1}, Arcs: arcs}, []int{1, 0}, []int{0, 4}}
}

// one: two nodes with one arc from 0 to 1, on which some flows.
func one(arc api.Arc, flow int, prices ...int) asked {
	arc.From, arc.To = 0, 1
	return asked{api.Net{Nodes: 2, Supply: []int{flow, -flow}, Arcs: []api.Arc{arc}}, []int{flow}, prices}
}

// turned: the example with something changed.
func turned(turn func(a *asked)) asked {
	a := two()
	turn(&a)
	return a
}

// roomy: a list with the same numbers, and spare room behind them that is not 0.
func roomy[T any](list []T, fill T) []T {
	if list == nil {
		return nil
	}
	out := append(slices.Clone(list), fill, fill, fill)
	return out[:len(list)]
}

// is: Check answers what it must, twice, and neither writes into what is handed in nor into the spare room behind it.
func is(t *testing.T, what string, a asked, want api.Errno) {
	t.Helper()
	mine := func() asked {
		n := api.Net{Nodes: a.n.Nodes, Supply: roomy(a.n.Supply, 77), Arcs: roomy(a.n.Arcs, api.Arc{From: 7, To: 7, Cap: 7, Cost: 7})}
		return asked{n, roomy(a.flow, 77), roomy(a.prices, 77)}
	}
	whole := func(a asked) []any {
		s, c, f, p := a.n.Supply, a.n.Arcs, a.flow, a.prices
		return []any{a.n.Nodes, s, c, f, p, s[:cap(s)], c[:cap(c)], f[:cap(f)], p[:cap(p)]}
	}
	b, before := mine(), mine()
	for range 2 {
		if got := Check(b.n, b.flow, b.prices); got != want {
			t.Errorf("%s: Check(%v, %v, %v) is %d, want %d", what, a.n, a.flow, a.prices, got, want)
		}
		if !reflect.DeepEqual(whole(b), whole(before)) {
			t.Errorf("P2: %s: Check writes into what is handed in", what)
		}
	}
}

// cost: of a flow.
func cost(n api.Net, flow []int) int {
	sum := 0
	for i, a := range n.Arcs {
		sum += flow[i] * a.Cost
	}
	return sum
}
