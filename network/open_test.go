package network

import (
	"slices"
	"testing"

	"assign/api"
)

// openNet: arcs that are open forth, back, both and neither way.
func openNet() (api.Net, []int) {
	arcs := []api.Arc{
		{From: 0, To: 1, Cap: 3, Cost: 5},
		{From: 1, To: 2, Cap: 3, Cost: 6},
		{From: 2, To: 0, Cap: 3, Cost: 7},
		{From: 0, To: 2, Cap: 0, Cost: 8},
		{From: 1, To: 1, Cap: 2, Cost: 9},
	}
	return api.Net{Nodes: 3, Supply: []int{-3, 2, 1}, Arcs: arcs}, []int{0, 2, 3, 0, 1}
}

// What is open is told in the order of the arcs, forth ahead of back.
func TestOpens(t *testing.T) {
	want := []open{{0, 1, 5, 0, 1}, {1, 2, 6, 1, 1}, {2, 1, -6, 1, -1}, {0, 2, -7, 2, -1}, {1, 1, 9, 4, 1}, {1, 1, -9, 4, -1}}
	if got := slices.Collect(opens(openNet())); !slices.Equal(got, want) {
		t.Errorf("open are %v, want %v", got, want)
	}
}

// It can be left at any place: no more is told then.
func TestOpensStop(t *testing.T) {
	all := slices.Collect(opens(openNet()))
	for most := range all {
		var got []open
		for o := range opens(openNet()) {
			got = append(got, o)
			if len(got) == most+1 {
				break
			}
		}
		if !slices.Equal(got, all[:most+1]) {
			t.Errorf("the first %d open are %v, want %v", most+1, got, all[:most+1])
		}
	}
}
