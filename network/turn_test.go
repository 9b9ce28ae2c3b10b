package network

import (
	"math/rand"
	"slices"
	"testing"

	"assign/api"
)

// least: Least answers a flow and prices that show it to be the cheapest (P10), in memory of their own, and writes neither into what is handed in nor into the spare room behind it.
func least(t *testing.T, n api.Net, start []int) []int {
	t.Helper()
	mine := roomy(start, 77)
	before := slices.Clone(mine[:cap(mine)])
	got, prices := Least(n, mine)
	if !slices.Equal(mine[:cap(mine)], before) {
		t.Fatalf("P8: Least(%v, %v) writes into what is handed in", n, start)
	}
	for i := range mine[:cap(mine)] {
		mine[:cap(mine)][i] = -1
	}
	if !isFlow(n, got) {
		t.Fatalf("P8: Least(%v, %v) is %v, and that is no flow", n, start, got)
	}
	is(t, "P11: the prices of the least", asked{n, got, prices}, api.OK)
	whole := slices.Clone(got)
	for i := range prices[:cap(prices)] {
		prices[:cap(prices)][i] = -1
	}
	if !slices.Equal(got, whole) {
		t.Fatalf("P11: Least(%v, %v) answers two lists that share memory", n, start)
	}
	return got
}

// P8: of small networks, from each flow to begin with, one that costs no more than any; what costs least to begin with stays as it is.
func TestLeast(t *testing.T) {
	r := rand.New(rand.NewSource(11))
	kept, turned := 0, 0
	for range 1500 {
		n, _ := someNet(r)
		flows := allFlows(n)
		want := leastOf(n, flows)
		for _, f := range flows {
			got := least(t, n, f)
			if cost(n, got) != want {
				t.Fatalf("P8: Least(%v, %v) is %v, at %d; the least is %d", n, f, got, cost(n, got), want)
			}
			if cost(n, f) > want {
				turned++
				continue
			}
			kept++
			if !slices.Equal(got, f) {
				t.Fatalf("P8: Least(%v, %v) is %v, but it began with one that costs least", n, f, got)
			}
		}
	}
	if kept < 1000 || turned < 1000 {
		t.Errorf("only %d flows that cost least and %d others were tried", kept, turned)
	}
}

// P8: as many nodes and arcs as may be; that it is the least is shown by prices (P10).
func TestLeastOfTheGreatest(t *testing.T) {
	r := rand.New(rand.NewSource(12))
	for range 5 {
		n := api.Net{Nodes: api.MaxNodes, Supply: make([]int, api.MaxNodes)}
		var flow []int
		for range api.MaxArcs {
			a := api.Arc{From: r.Intn(n.Nodes), To: r.Intn(n.Nodes), Cap: r.Intn(4), Cost: r.Intn(2*api.MaxArcCost+1) - api.MaxArcCost}
			f := r.Intn(a.Cap + 1)
			n.Arcs, flow = append(n.Arcs, a), append(flow, f)
			n.Supply[a.From] += f
			n.Supply[a.To] -= f
		}
		got := least(t, n, flow)
		is(t, "P8: as large as may be", asked{n, got, fair(n, got)}, api.OK)
	}
}

// P8: a circle wherever it lies, and of whatever length.
func TestLeastFindsCircles(t *testing.T) {
	is := func(what string, n api.Net, start, want []int) {
		t.Helper()
		if got := least(t, n, start); !slices.Equal(got, want) {
			t.Errorf("P8: %s: Least is %v, want %v", what, got, want)
		}
	}
	net := func(nodes int, arcs ...api.Arc) api.Net {
		return api.Net{Nodes: nodes, Supply: make([]int, nodes), Arcs: arcs}
	}
	is("nothing", net(0), []int{}, []int{})
	is("nodes alone", net(3), []int{}, []int{})
	self := api.Arc{From: 1, To: 1, Cap: 3, Cost: -1}
	is("round one node", net(2, self), []int{0}, []int{3})
	self.Cost = 1
	is("round one node, back", net(2, self), []int{3}, []int{0})
	self.Cost = 0
	is("round one node, at no cost", net(2, self), []int{2}, []int{2})
	is("nothing that may flow", net(2, api.Arc{From: 1, To: 1, Cost: -1}), []int{0}, []int{0})
	forth, home := api.Arc{From: 0, To: 1, Cap: 2, Cost: 5}, api.Arc{From: 1, To: 0, Cap: 3, Cost: -6}
	is("to and fro", net(2, forth, home), []int{0, 0}, []int{2, 2})
	home.Cost = -5
	is("to and fro at no cost", net(2, forth, home), []int{0, 0}, []int{0, 0})
	is("the cheaper of two", two().n, []int{0, 1}, []int{1, 0})
	var ring []api.Arc
	for i := range 60 {
		ring = append(ring, api.Arc{From: i, To: (i + 1) % 60, Cap: 1})
	}
	ring[37].Cost = -1
	is("all nodes", net(60, ring...), make([]int, 60), slices.Repeat([]int{1}, 60))
	slices.Reverse(ring)
	is("all nodes, told from the end", net(60, ring...), make([]int, 60), slices.Repeat([]int{1}, 60))
	var way []api.Arc
	for i := range api.MaxNodes - 1 {
		way = append(way, api.Arc{From: i, To: i + 1, Cap: 1, Cost: -api.MaxArcCost})
	}
	is("no circle, but the longest way there is, at prices that go as far down as any", net(api.MaxNodes, way...), make([]int, len(way)), make([]int, len(way)))
}

// P8: what is told as a circle is one, of open arcs, and saves something; a flow that costs least has none.
func TestCircle(t *testing.T) {
	r := rand.New(rand.NewSource(13))
	some, none := 0, 0
	for range 5000 {
		n, flow := someNet(r)
		c, prices := circle(n, flow)
		if len(c) == 0 {
			none++
			is(t, "P8: no circle", asked{n, flow, fair(n, flow)}, api.OK)
			is(t, "P11: the prices, where there is no circle", asked{n, flow, prices}, api.OK)
			continue
		}
		some++
		all, sum := slices.Collect(opens(n, flow)), 0
		for i, o := range c {
			sum += o.cost
			if o.from != c[(i+1)%len(c)].to || !slices.Contains(all, o) || slices.Contains(c[:i], o) {
				t.Fatalf("P8: the circle %v in %v, %v", c, n, flow)
			}
		}
		if sum >= 0 {
			t.Fatalf("P8: the circle %v in %v, %v saves %d", c, n, flow, -sum)
		}
	}
	if some < 1000 || none < 1000 {
		t.Errorf("only %d with a circle and %d without were tried", some, none)
	}
}
