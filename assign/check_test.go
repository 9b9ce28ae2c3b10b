package assign

import (
	"testing"

	"assign/api"
)

// P9: the document's example by the call, each error among its answers.
func TestCheckExample(t *testing.T) {
	arcs := []api.Arc{{From: 0, To: 1, Cap: 1, Cost: 4}, {From: 0, To: 1, Cap: 1, Cost: 5}}
	n := api.Net{Nodes: 2, Supply: []int{1, -1}, Arcs: arcs}
	is(t, "P9: Check", Check(n, []int{1, 0}, []int{0, 4}), api.OK)
	is(t, "P9: Check", Check(n, []int{1, 0}, []int{0, 5}), api.OK)
	is(t, "P9: Check", Check(n, []int{1, 0}, []int{0, 3}), api.ErrPrice)
	is(t, "P9: Check", Check(n, []int{0, 1}, []int{0, 4}), api.ErrPrice)
	is(t, "P9: Check", Check(n, []int{1, 1}, []int{0, 4}), api.ErrFlow)
	is(t, "P9: Check", Check(api.Net{Nodes: 1}, nil, nil), api.ErrNet)
	is(t, "P9: Check", Check(api.Net{}, nil, nil), api.OK)
}
