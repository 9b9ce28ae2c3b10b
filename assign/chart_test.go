package assign

import (
	"math/rand"
	"reflect"
	"slices"
	"testing"

	"assign/api"
)

// arcs: from, to, Cap, Cost, four by four.
func arcs(numbers ...int) []api.Arc {
	var out []api.Arc
	for a := range slices.Chunk(numbers, 4) {
		out = append(out, api.Arc{From: a[0], To: a[1], Cap: a[2], Cost: a[3]})
	}
	return out
}

// charted: the network of a plan, and what flows on it to begin with.
func charted(t *testing.T, p *Plan, net api.Net, flow ...int) {
	t.Helper()
	c := p.chart()
	if !reflect.DeepEqual(c.net, net) {
		t.Errorf("the network is %v, want %v", c.net, net)
	}
	if !slices.Equal(c.flow, flow) {
		t.Errorf("it begins with the flow %v, want %v", c.flow, flow)
	}
}

// P8: the network that is solved is the plan's, and it begins with what runs.
func TestChart(t *testing.T) {
	p := New()
	charted(t, p, api.Net{Nodes: 2, Supply: []int{0, 0}})
	// the nodes: 0 cluster, 1 sink, 2 and 3 racks 4 and 9, 4 and 5 machines 1 and 8, 6 and 7 jobs 0 and 7, 8 and 9 tasks 2 and 3
	allOK(t, p.Rack(9), p.Rack(4), p.Machine(8, 4, 2), p.Machine(1, 9, 3), p.Job(7, 100), p.Job(0, 300), p.Task(3, 7, 40), p.Task(2, 0, 50),
		p.Prefer(3, api.OfRack, 9, 5), p.Prefer(3, api.OfRack, 4, 6), p.Prefer(3, api.OfMachine, 8, 7), p.Prefer(3, api.OfMachine, 1, 8))
	p.Tick()
	supply := []int{0, -2, 0, 0, 0, 0, 0, 0, 1, 1}
	same := arcs(0, 2, 1000, 0, 0, 3, 1000, 0, 3, 4, 3, 0, 4, 1, 3, 0, 2, 5, 2, 0, 5, 1, 2, 0, 6, 1, 16, 0, 7, 1, 16, 0)
	charted(t, p, api.Net{Nodes: 10, Supply: supply, Arcs: append(slices.Clip(same), arcs(
		8, 6, 1, 301, 8, 0, 1, 50,
		9, 7, 1, 101, 9, 4, 1, 8, 9, 5, 1, 7, 9, 2, 1, 6, 9, 3, 1, 5, 9, 0, 1, 40)...)},
		0, 0, 0, 0, 0, 0, 1, 1, 1, 0, 1, 0, 0, 0, 0, 0)
	runOn(p, 3, 8)
	charted(t, p, api.Net{Nodes: 10, Supply: supply, Arcs: append(slices.Clip(same), arcs(
		8, 6, 1, 301, 8, 0, 1, 50,
		9, 5, 1, 6, 9, 7, 1, 150, 9, 4, 1, 58, 9, 5, 1, 57, 9, 2, 1, 56, 9, 3, 1, 55, 9, 0, 1, 90)...)},
		0, 0, 0, 0, 0, 1, 1, 0, 1, 0, 1, 0, 0, 0, 0, 0, 0)
}

// P8: whatever a plan is, its network is one that may be, and what it begins with is a flow of it that costs what is now.
func TestChartsMayBe(t *testing.T) {
	r := rand.New(rand.NewSource(31))
	for i := range 300 {
		p := New()
		for range 100 {
			someCall(r, 16, []int{3, 1000}[i%2])(p)
			if r.Intn(20) == 0 {
				p.Solve()
			}
		}
		c := p.chart()
		// prices that show nothing, unless nothing needs to be shown: all else is held against the limits ahead of them
		if e := Check(c.net, c.flow, make([]int, c.net.Nodes)); e == api.ErrNet || e == api.ErrFlow {
			t.Fatalf("Check(%v, %v): %d", c.net, c.flow, e)
		}
		flows, costs := 0, 0
		for k, a := range c.net.Arcs {
			flows += c.flow[k] * a.Cost
		}
		for _, task := range p.all(taskKind) {
			costs += asks(t, p, task.id, at(t, p, task))
		}
		if flows != costs {
			t.Fatalf("the network begins at %d, want %d: %v", flows, costs, *p)
		}
	}
}
