// Package network: networks of flows, whatever they stand for.
package network

import "assign/api"

// Check tells whether prices show that no flow of n costs less than this one (P9).
func Check(n api.Net, flow []int, prices []int) api.Errno {
	switch {
	case !mayBe(n):
		return api.ErrNet
	case !isFlow(n, flow):
		return api.ErrFlow
	case !show(n, flow, prices):
		return api.ErrPrice
	}
	return api.OK
}

func within(x, least, most int) bool { return least <= x && x <= most }

// mayBe holds the lengths against the limits first, so that what is walked behind them is short, whatever was handed in.
func mayBe(n api.Net) bool {
	if !within(n.Nodes, 0, api.MaxNodes) || len(n.Supply) != n.Nodes || len(n.Arcs) > api.MaxArcs {
		return false
	}
	for _, s := range n.Supply {
		if !within(s, -api.MaxCap, api.MaxCap) {
			return false
		}
	}
	for _, a := range n.Arcs {
		if !arcMayBe(a, n.Nodes) {
			return false
		}
	}
	return true
}

func arcMayBe(a api.Arc, nodes int) bool {
	return within(a.From, 0, nodes-1) && within(a.To, 0, nodes-1) &&
		within(a.Cap, 0, api.MaxCap) && within(a.Cost, -api.MaxArcCost, api.MaxArcCost)
}

// isFlow asks of a network that may be. Each number is held against its Cap ahead of being added, so that no sum can wrap round.
func isFlow(n api.Net, flow []int) bool {
	if len(flow) != len(n.Arcs) {
		return false
	}
	over := make([]int, n.Nodes)
	copy(over, n.Supply)
	for i, a := range n.Arcs {
		if !within(flow[i], 0, a.Cap) {
			return false
		}
		over[a.From] -= flow[i]
		over[a.To] += flow[i]
	}
	for _, x := range over {
		if x != 0 {
			return false
		}
	}
	return true
}

// show asks of a network that may be and a flow of it. An open arc that leads back costs what it saves; so the two halves of the promise are one here: on no open arc is anything saved.
func show(n api.Net, flow []int, prices []int) bool {
	if len(prices) != n.Nodes {
		return false
	}
	for _, p := range prices {
		if !within(p, -api.MaxPrice, api.MaxPrice) {
			return false
		}
	}
	for o := range opens(n, flow) {
		if o.cost+prices[o.from]-prices[o.to] < 0 {
			return false
		}
	}
	return true
}
