package network

import (
	"slices"

	"assign/api"
)

// nowhere stands for the node that isn't there.
const nowhere = -1

// Least begins with a flow of n, and turns it round in circles that save something until there is none left: then no flow costs less, and the prices show it.
func Least(n api.Net, flow []int) (least, prices []int) {
	least = slices.Clone(flow)
	for {
		c, costs := circle(n, least)
		if len(c) == 0 {
			return least, costs
		}
		for _, o := range c {
			least[o.arc] += o.by
		}
	}
}

// circle: open arcs that lead round and save something together; if there is no such circle, none, and what it costs to come to each node.
// Every node is begun with, at no cost, for a circle may lie where no other node leads to. So no node costs more than 0, nor less than one arc for each other node can save: the costs are prices that may be.
func circle(n api.Net, flow []int) ([]open, []int) {
	costs := make([]int, n.Nodes)
	last := slices.Repeat([]open{{from: nowhere}}, n.Nodes)
	for cheaper := true; cheaper; {
		cheaper = false
		for o := range opens(n, flow) {
			c := costs[o.from] + o.cost
			if c >= costs[o.to] {
				continue
			}
			cheaper = true
			costs[o.to], last[o.to] = c, o
			if found := back(last, o.to); len(found) > 0 {
				return found, nil
			}
		}
	}
	return nil, costs
}

// back goes from a node to that from which it was reached, and so on: the arcs, if that leads round to the node again, else none.
// It ends, for a circle is looked for at each step: none can be there that doesn't lead through this node.
func back(last []open, node int) []open {
	var found []open
	for at := node; last[at].from != nowhere; {
		found = append(found, last[at])
		at = last[at].from
		if at == node {
			return found
		}
	}
	return nil
}
