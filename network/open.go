package network

import (
	"iter"

	"assign/api"
)

// open: an arc on which something can still flow, with what one more costs.
type open struct {
	from, to int
	cost     int
	arc, by  int // for one more here, so much more flows on that arc of the network: 1 forth, -1 back
}

// opens tells, in the order of the arcs, what is open forth (less flows than may) and back (something flows that can be taken away again).
func opens(n api.Net, flow []int) iter.Seq[open] {
	return func(yield func(open) bool) {
		for i, a := range n.Arcs {
			if flow[i] < a.Cap && !yield(open{a.From, a.To, a.Cost, i, 1}) {
				return
			}
			if flow[i] > 0 && !yield(open{a.To, a.From, -a.Cost, i, -1}) {
				return
			}
		}
	}
}
