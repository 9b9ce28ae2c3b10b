package assign

import (
	"slices"

	"assign/api"
)

// chart: the network of a plan, and what flows on it.
type chart struct {
	net    api.Net
	flow   []int
	nodes  map[thing]int
	things []thing // by node
}

// showing: a network, a flow of it, and prices that show that none costs less.
type showing struct {
	net          api.Net
	flow, prices []int
}

// chart draws the network of the plan; what flows on it is what runs.
func (p *Plan) chart() *chart {
	c := &chart{nodes: map[thing]int{}}
	tasks := p.all(taskKind)
	c.addNodes(0, thing{kind: clusterKind})
	c.addNodes(-len(tasks), thing{kind: sinkKind})
	c.addNodes(0, p.all(rackKind)...)
	c.addNodes(0, p.all(machineKind)...)
	c.addNodes(0, p.all(jobKind)...)
	c.addNodes(1, tasks...)
	p.chartRooms(c)
	for _, t := range tasks {
		p.chartTask(c, t)
		c.begin(t)
	}
	return c
}

// chartRooms draws the arcs over which all tasks flow: at no cost, but with no more room than machines have.
func (p *Plan) chartRooms(c *chart) {
	cluster, sink := thing{kind: clusterKind}, thing{kind: sinkKind}
	for _, r := range p.all(rackKind) {
		c.addArc(cluster, r, api.MaxCap, 0)
	}
	for _, m := range p.all(machineKind) {
		f := p.things[m]
		c.addArc(f.in, m, f.slots, 0)
		c.addArc(m, sink, f.slots, 0)
	}
	for _, j := range p.all(jobKind) {
		c.addArc(j, sink, api.MaxTasks, 0)
	}
}

// chartTask draws the arcs of a task.
func (p *Plan) chartTask(c *chart, t thing) {
	f, move := p.things[t], 0
	if m, ok := p.runs[t]; ok {
		c.addArc(t, m, 1, p.costOn(t, m))
		move = api.MoveCost
	}
	c.addArc(t, f.in, 1, p.costOnNone(t))
	for _, target := range slices.Concat(p.all(machineKind), p.all(rackKind)) {
		if cost, ok := p.prefers[wish{t, target}]; ok {
			c.addArc(t, target, 1, cost+move)
		}
	}
	c.addArc(t, thing{kind: clusterKind}, 1, f.cost+move)
}

func (c *chart) addNodes(supply int, all ...thing) {
	for _, t := range all {
		c.nodes[t] = len(c.things)
		c.things = append(c.things, t)
		c.net.Supply = append(c.net.Supply, supply)
	}
	c.net.Nodes = len(c.things)
}

func (c *chart) addArc(from, to thing, most, cost int) {
	c.net.Arcs = append(c.net.Arcs, api.Arc{From: c.nodes[from], To: c.nodes[to], Cap: most, Cost: cost})
	c.flow = append(c.flow, 0)
}

// begin lets one flow from a task to the sink along the first arcs, for those lead over where the task is now: the machine on which it runs, or else its job.
func (c *chart) begin(t thing) {
	for at := t; at.kind != sinkKind; {
		at = c.step(at, 0, 1)
	}
}

// place: the machine, or else the job, over which one flows from a task to the sink. Up to there it is taken out of the flow, so that no other task is placed by it.
func (c *chart) place(t thing) thing {
	at := t
	for at.kind != machineKind && at.kind != jobKind {
		at = c.step(at, 1, -1)
	}
	return at
}

// step goes along the first arc out of a node on which at least so much flows, and changes what flows there.
// There is one, for the network was drawn so, and what flows into a node flows out of it.
func (c *chart) step(from thing, least, by int) thing {
	i := 0
	for c.net.Arcs[i].From != c.nodes[from] || c.flow[i] < least {
		i++
	}
	c.flow[i] += by
	return c.things[c.net.Arcs[i].To]
}
