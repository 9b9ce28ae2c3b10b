package network

import (
	"slices"

	"assign/api"
)

// nowhere stands for the node that isn't there.
const nowhere = -1

// Least begins with a flow of n, and turns it round in circles that save something until there is none left: then no flow costs less.
func Least(n api.Net, flow []int) []int {
	flow = slices.Clone(flow)
	for c := circle(n, flow); len(c) > 0; c = circle(n, flow) {
		for _, o := range c {
			flow[o.arc] += o.by
		}
	}
	return flow
}

// circle: open arcs that lead round and save something together; none, if there is no such circle.
// Every node is begun with, at no cost, for a circle may lie where no other node leads to.
func circle(n api.Net, flow []int) []open {
	costs := make([]int, n.Nodes)
	last := slices.Repeat([]open{{from: nowhere}}, n.Nodes)
	for cheaper := true; cheaper; {
		cheaper = false
		for o := range opens(n, flow) {
			c := costs[o.from] + o.cost
			if c >= costs[o.to] {
				continue
			}
			cheaper = true
			costs[o.to], last[o.to] = c, o
			if found := back(last, o.to); len(found) > 0 {
				return found
			}
		}
	}
	return nil
}

// back goes from a node to that from which it was reached, and so on: the arcs, if that leads round to the node again, else none.
// It ends, for a circle is looked for at each step: none can be there that doesn't lead through this node.
func back(last []open, node int) []open {
	var found []open
	for at := node; last[at].from != nowhere; {
		found = append(found, last[at])
		at = last[at].from
		if at == node {
			return found
		}
	}
	return nil
}
