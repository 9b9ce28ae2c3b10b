package network

import (
	"math/rand"
	"slices"
	"testing"

	"assign/api"
)

// someNet: a small network, and a flow of it.
func someNet(r *rand.Rand) (api.Net, []int) {
	n := api.Net{Nodes: 1 + r.Intn(4)}
	n.Supply = make([]int, n.Nodes)
	var flow []int
	for range r.Intn(6) {
		a := api.Arc{From: r.Intn(n.Nodes), To: r.Intn(n.Nodes), Cap: r.Intn(4), Cost: r.Intn(9) - 4}
		f := r.Intn(a.Cap + 1)
		n.Arcs, flow = append(n.Arcs, a), append(flow, f)
		n.Supply[a.From] += f
		n.Supply[a.To] -= f
	}
	return n, flow
}

// allFlows: every flow of a small network, told by trying each number on each arc.
func allFlows(n api.Net) [][]int {
	var out [][]int
	flow, left := make([]int, len(n.Arcs)), slices.Clone(n.Supply)
	var walk func(i int)
	walk = func(i int) {
		if i == len(n.Arcs) {
			if !slices.ContainsFunc(left, func(x int) bool { return x != 0 }) {
				out = append(out, slices.Clone(flow))
			}
			return
		}
		a := n.Arcs[i]
		for f := 0; f <= a.Cap; f++ {
			flow[i] = f
			left[a.From] -= f
			left[a.To] += f
			walk(i + 1)
			left[a.From] += f
			left[a.To] -= f
		}
	}
	walk(0)
	return out
}

// leastOf: what the cheapest of some flows costs.
func leastOf(n api.Net, flows [][]int) int {
	least := cost(n, flows[0])
	for _, f := range flows {
		least = min(least, cost(n, f))
	}
	return least
}

// fair: prices for a flow, as short ways over what is open; with a flow that isn't the cheapest they show nothing.
func fair(n api.Net, flow []int) []int {
	prices := make([]int, n.Nodes)
	for range n.Nodes {
		for i, a := range n.Arcs {
			if flow[i] < a.Cap {
				prices[a.To] = min(prices[a.To], prices[a.From]+a.Cost)
			}
			if flow[i] > 0 {
				prices[a.From] = min(prices[a.From], prices[a.To]-a.Cost)
			}
		}
	}
	return prices
}

// asSaid: what Check must answer of a network that may be, a flow of it, and prices that may be, in the words of P9.
func asSaid(n api.Net, flow, prices []int) api.Errno {
	for i, a := range n.Arcs {
		d := a.Cost + prices[a.From] - prices[a.To]
		if d < 0 && flow[i] < a.Cap || d > 0 && flow[i] > 0 {
			return api.ErrPrice
		}
	}
	return api.OK
}

// P9, P10: a flow that costs least has prices that show it, and no other flow has any that Check lets by.
func TestCheapestAlone(t *testing.T) {
	r := rand.New(rand.NewSource(7))
	cheapest, dearer := 0, 0
	for range 1500 {
		n, _ := someNet(r)
		flows := allFlows(n)
		least := leastOf(n, flows)
		for _, f := range flows {
			prices := fair(n, f)
			if cost(n, f) == least {
				cheapest++
				is(t, "P9: one that costs least", asked{n, f, prices}, api.OK)
				continue
			}
			dearer++
			is(t, "P10: one that costs more", asked{n, f, prices}, api.ErrPrice)
			for i := range prices {
				prices[i] += r.Intn(9) - 4
			}
			is(t, "P10: one that costs more", asked{n, f, prices}, api.ErrPrice)
		}
	}
	if cheapest < 1000 || dearer < 1000 {
		t.Errorf("only %d flows that cost least and %d others were tried", cheapest, dearer)
	}
}

// P9: at prices of all sorts, the answer that the document's words give.
func TestAsSaid(t *testing.T) {
	r := rand.New(rand.NewSource(8))
	count := map[api.Errno]int{}
	for range 6000 {
		n, flow := someNet(r)
		prices := make([]int, n.Nodes)
		for i := range prices {
			prices[i] = r.Intn(5) - 2
		}
		want := asSaid(n, flow, prices)
		count[want]++
		is(t, "P9", asked{n, flow, prices}, want)
	}
	if count[api.OK] < 500 || count[api.ErrPrice] < 500 {
		t.Errorf("too few of a sort: %v", count)
	}
}

// P9: whatever one number is changed to, Check ends; a flow with one number changed is one no more, but round one node.
func TestOneNumberChanged(t *testing.T) {
	r := rand.New(rand.NewSource(9))
	for range 2000 {
		n, flow := someNet(r)
		prices := fair(n, flow)
		if len(flow) == 0 {
			continue
		}
		i := r.Intn(len(flow))
		if n.Arcs[i].From == n.Arcs[i].To {
			continue
		}
		other := slices.Clone(flow)
		other[i] += 1 - 2*r.Intn(2)
		is(t, "P9: a number changed", asked{n, other, prices}, api.ErrFlow)
		other[i] = far[r.Intn(len(far))]
		is(t, "P9: a number far off", asked{n, other, prices}, api.ErrFlow)
	}
}
