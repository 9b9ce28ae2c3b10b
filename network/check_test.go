package network

import (
	"math"
	"testing"

	"assign/api"
)

func TestExample(t *testing.T) {
	with := func(flow, prices []int) asked { return asked{two().n, flow, prices} }
	is(t, "P9: the example", with([]int{1, 0}, []int{0, 4}), api.OK)
	is(t, "P9: the example", with([]int{1, 0}, []int{0, 5}), api.OK)
	is(t, "P9: the example", with([]int{1, 0}, []int{0, 3}), api.ErrPrice)
	is(t, "P9: the example", with([]int{1, 0}, []int{0, 6}), api.ErrPrice)
	is(t, "P9: the example", with([]int{1, 1}, []int{0, 4}), api.ErrFlow)
	for price := -20; price <= 20; price++ {
		is(t, "P9: the dearer arc", with([]int{0, 1}, []int{0, price}), api.ErrPrice)
	}
}

// P9: a network with nothing, with nodes alone, and with as much as may be.
func TestNetSizes(t *testing.T) {
	is(t, "P9: nothing", asked{}, api.OK)
	is(t, "P9: nothing", asked{api.Net{Supply: []int{}, Arcs: []api.Arc{}}, []int{}, []int{}}, api.OK)
	nodes := func(n, supplies, prices int) asked {
		return asked{api.Net{Nodes: n, Supply: make([]int, supplies)}, nil, make([]int, prices)}
	}
	for _, n := range []int{1, 2, 59, 60} {
		is(t, "P9: nodes alone", nodes(n, n, n), api.OK)
		is(t, "P9: a supply less", nodes(n, n-1, n), api.ErrNet)
		is(t, "P9: a supply more", nodes(n, n+1, n), api.ErrNet)
		is(t, "P9: a price less", nodes(n, n, n-1), api.ErrPrice)
		is(t, "P9: a price more", nodes(n, n, n+1), api.ErrPrice)
	}
	is(t, "P9: too many nodes", nodes(61, 61, 61), api.ErrNet)
	is(t, "P9: a supply without a node", nodes(0, 1, 0), api.ErrNet)
	for _, n := range append(far, -1, -2, 61) {
		is(t, "P9: nodes", nodes(n, 0, 0), api.ErrNet)
		is(t, "P9: nodes", nodes(n, 60, 60), api.ErrNet)
	}
	arcs := func(n int) asked {
		return asked{api.Net{Nodes: 1, Supply: []int{0}, Arcs: make([]api.Arc, n)}, make([]int, n), []int{0}}
	}
	is(t, "P9: as many arcs as may be", arcs(600), api.OK)
	is(t, "P9: too many arcs", arcs(601), api.ErrNet)
	is(t, "P9: an arc without a node", asked{api.Net{Arcs: make([]api.Arc, 1)}, []int{0}, nil}, api.ErrNet)
}

// P9: each number of a network on and beside its edges, at the first place and at the last.
func TestNetNumbers(t *testing.T) {
	for _, i := range []int{0, 1} {
		for _, bad := range append(far, -1001, 1001) {
			is(t, "P9: Supply", turned(func(a *asked) { a.n.Supply[i] = bad }), api.ErrNet)
		}
		for _, good := range []int{-1000, 1000} {
			is(t, "P9: a Supply that may be", turned(func(a *asked) { a.n.Supply[i] = good }), api.ErrFlow)
		}
		for _, bad := range append(far, -1, 2) {
			is(t, "P9: From", turned(func(a *asked) { a.n.Arcs[i].From = bad }), api.ErrNet)
			is(t, "P9: To", turned(func(a *asked) { a.n.Arcs[i].To = bad }), api.ErrNet)
		}
		for _, bad := range append(far, -1, 1001) {
			is(t, "P9: Cap", turned(func(a *asked) { a.n.Arcs[i].Cap = bad }), api.ErrNet)
		}
		for _, bad := range append(far, -10001, 10001) {
			is(t, "P9: Cost", turned(func(a *asked) { a.n.Arcs[i].Cost = bad }), api.ErrNet)
		}
	}
	is(t, "P9: the least and most Supply", one(api.Arc{Cap: 1000, Cost: 3}, 1000, 0, 3), api.OK)
	is(t, "P9: the most Cap", turned(func(a *asked) { a.n.Arcs[1].Cap = 1000 }), api.OK)
	is(t, "P9: the least Cap", turned(func(a *asked) { a.n.Arcs[1].Cap = 0 }), api.OK)
	is(t, "P9: the most Cost", turned(func(a *asked) { a.n.Arcs[1].Cost = 10000 }), api.OK)
	is(t, "P9: the least Cost", turned(func(a *asked) { a.n.Arcs[0].Cost = -10000 }), api.OK)
	is(t, "P9: both at the last node", turned(func(a *asked) { a.n.Arcs[1] = api.Arc{From: 1, To: 1, Cap: 2, Cost: 1} }), api.OK)
}

// P9: what is no flow, by its length, by the arcs' Caps, by a node.
func TestFlows(t *testing.T) {
	with := func(flow ...int) asked { return turned(func(a *asked) { a.flow = flow }) }
	is(t, "P9: no flow at all", with(), api.ErrFlow)
	is(t, "P9: a number less", with(1), api.ErrFlow)
	is(t, "P9: a number more", with(1, 0, 0), api.ErrFlow)
	is(t, "P9: a number without an arc", asked{flow: []int{0}}, api.ErrFlow)
	is(t, "P9: too little", with(0, 0), api.ErrFlow)
	is(t, "P9: too much", with(1, 1), api.ErrFlow)
	is(t, "P9: one below 0", with(2, -1), api.ErrFlow)
	is(t, "P9: one below 0 within the Caps", with(-1, 1), api.ErrFlow)
	for _, x := range far {
		is(t, "P9: far off", with(x, 0), api.ErrFlow)
		is(t, "P9: far off", with(1, x), api.ErrFlow)
		is(t, "P9: a sum that wraps round", with(x, 1-x), api.ErrFlow)
	}
	is(t, "P9: up to the Cap", one(api.Arc{Cap: 7, Cost: 1}, 7, 0, 1), api.OK)
	is(t, "P9: above the Cap", one(api.Arc{Cap: 7, Cost: 1}, 8, 0, 1), api.ErrFlow)
	is(t, "P9: the other way", one(api.Arc{Cap: 7, Cost: 1}, -1, 0, 1), api.ErrFlow)
	is(t, "P9: a Cap of 0", one(api.Arc{}, 1, 0, 0), api.ErrFlow)
	is(t, "P9: a supply that goes nowhere", asked{api.Net{Nodes: 1, Supply: []int{1}}, nil, []int{0}}, api.ErrFlow)
	is(t, "P9: a want that nothing fills", asked{api.Net{Nodes: 1, Supply: []int{-1}}, nil, []int{0}}, api.ErrFlow)
	is(t, "P9: a whole that is 0, at no node", asked{api.Net{Nodes: 2, Supply: []int{1, -1}}, nil, []int{0, 0}}, api.ErrFlow)
}

// P9: a flow through many arcs, each full of as much as may be.
func TestFlowThrough(t *testing.T) {
	a := asked{n: api.Net{Nodes: 60, Supply: make([]int, 60)}}
	for i := range 60 {
		a.prices = append(a.prices, -10000*i)
	}
	for i := range 600 {
		a.n.Arcs = append(a.n.Arcs, api.Arc{From: i % 60, To: (i + 1) % 60, Cap: 1000, Cost: -10000})
		a.flow = append(a.flow, 1000)
	}
	is(t, "P9: a full circle", a, api.OK)
	a.flow[599] = 999
	is(t, "P9: not at the last node", a, api.ErrFlow)
	for i := 540; i < 600; i++ {
		a.flow[i] = 999
	}
	is(t, "P9: a circle that saves something", a, api.ErrPrice)
}

// P9: by the sign of d, what must flow.
func TestPricesOnAnArc(t *testing.T) {
	for _, c := range []struct{ cap, flow, price int }{{3, 0, 5}, {3, 0, 4}, {3, 1, 5}, {3, 2, 5}, {3, 3, 5}, {3, 3, 6}, {0, 0, 4}, {0, 0, 5}, {0, 0, 6}} {
		is(t, "P9: d is right", one(api.Arc{Cap: c.cap, Cost: 5}, c.flow, 0, c.price), api.OK)
		is(t, "P9: d is right", one(api.Arc{Cap: c.cap, Cost: 5}, c.flow, 100, 100+c.price), api.OK)
	}
	for _, c := range []struct{ cap, flow, price int }{{3, 0, 6}, {3, 1, 6}, {3, 2, 6}, {3, 1, 4}, {3, 2, 4}, {3, 3, 4}} {
		is(t, "P9: d is wrong", one(api.Arc{Cap: c.cap, Cost: 5}, c.flow, 0, c.price), api.ErrPrice)
		is(t, "P9: d is wrong", one(api.Arc{Cap: c.cap, Cost: 5}, c.flow, -100, c.price-100), api.ErrPrice)
	}
	self := func(flow, cost int) asked {
		return asked{api.Net{Nodes: 1, Supply: []int{0}, Arcs: []api.Arc{{Cap: 3, Cost: cost}}}, []int{flow}, []int{7}}
	}
	for flow := range 4 {
		want := map[bool]api.Errno{true: api.OK, false: api.ErrPrice}
		is(t, "P9: round one node at a cost", self(flow, 2), want[flow == 0])
		is(t, "P9: round one node at none", self(flow, 0), api.OK)
		is(t, "P9: round one node at a gain", self(flow, -2), want[flow == 3])
	}
}

// P9: prices on and beside their edges.
func TestPriceEdges(t *testing.T) {
	with := func(prices ...int) asked { return turned(func(a *asked) { a.prices = prices }) }
	is(t, "P9: the least price", with(-1000000, -999996), api.OK)
	is(t, "P9: the most price", with(999996, 1000000), api.OK)
	is(t, "P9: below the least", with(-1000001, -999997), api.ErrPrice)
	is(t, "P9: above the most", with(999997, 1000001), api.ErrPrice)
	is(t, "P9: no prices", with(), api.ErrPrice)
	is(t, "P9: a price less", with(0), api.ErrPrice)
	is(t, "P9: a price more", with(0, 4, 0), api.ErrPrice)
	is(t, "P9: as far apart as may be", one(api.Arc{Cap: 1, Cost: -10000}, 1, -1000000, 1000000), api.OK)
	is(t, "P9: as far apart as may be", one(api.Arc{Cap: 1, Cost: 10000}, 0, 1000000, -1000000), api.OK)
	is(t, "P9: as far apart as may be", one(api.Arc{Cap: 1, Cost: 10000}, 1, 1000000, -1000000), api.ErrPrice)
	for _, x := range far {
		is(t, "P9: far off", with(x, 4), api.ErrPrice)
		is(t, "P9: far off", with(0, x), api.ErrPrice)
		is(t, "P9: far off, d as it were right", with(x, x+4), api.ErrPrice)
	}
	is(t, "P9: far off at a node without arcs", asked{api.Net{Nodes: 1, Supply: []int{0}}, nil, []int{math.MaxInt}}, api.ErrPrice)
}

// P1: of several errors the first that is named.
func TestErrorsInOrder(t *testing.T) {
	bad := two()
	bad.flow, bad.prices = []int{1, 1}, []int{0, 3}
	is(t, "ErrFlow ahead of ErrPrice", bad, api.ErrFlow)
	bad.flow, bad.prices = nil, nil
	is(t, "ErrFlow ahead of ErrPrice", bad, api.ErrFlow)
	bad.n.Arcs[1].To = 2
	is(t, "ErrNet ahead of the rest", bad, api.ErrNet)
	bad.flow = []int{1, 0}
	is(t, "ErrNet ahead of ErrPrice", bad, api.ErrNet)
	bad = two()
	bad.n.Supply, bad.flow = nil, nil
	is(t, "ErrNet ahead of ErrFlow", bad, api.ErrNet)
}
