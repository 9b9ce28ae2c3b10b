// Package assign: places tasks on machines at the least cost, and shows that it is the least: see DOC.md.
package assign

import (
	"slices"

	"assign/api"
	"assign/network"
)

// Plan: a cluster, and what runs where.
type Plan struct {
	things  map[thing]facts // all that there is
	runs    map[thing]thing // by task the machine; a task that runs on none isn't here
	waited  map[thing]int   // by task the ticks; a task that isn't here has waited none
	prefers map[wish]int    // the cost
	last    showing         // of the last Solve
}

// New makes a plan without anything.
func New() *Plan {
	return &Plan{
		things:  map[thing]facts{},
		runs:    map[thing]thing{},
		waited:  map[thing]int{},
		prefers: map[wish]int{},
	}
}

// Rack makes a rack (P3).
func (p *Plan) Rack(id int) api.Errno {
	r := thing{rackKind, id}
	if e := p.room(r, api.MaxRacks); e != api.OK {
		return e
	}
	p.things[r] = facts{in: thing{kind: clusterKind}}
	return api.OK
}

// Machine makes a machine (P3).
func (p *Plan) Machine(id int, rack int, slots int) api.Errno {
	m, r := thing{machineKind, id}, thing{rackKind, rack}
	if e := p.room(m, api.MaxMachines); e != api.OK {
		return e
	}
	if !p.has(r) {
		return api.ErrUnknown
	}
	if slots < 1 || slots > api.MaxSlots {
		return api.ErrRange
	}
	p.things[m] = facts{in: r, slots: slots}
	return api.OK
}

// Job makes a job (P3).
func (p *Plan) Job(id int, base int) api.Errno {
	j := thing{jobKind, id}
	if e := p.room(j, api.MaxJobs); e != api.OK {
		return e
	}
	if !isCost(base) {
		return api.ErrRange
	}
	p.things[j] = facts{in: thing{kind: clusterKind}, cost: base}
	return api.OK
}

// Task makes a task (P3).
func (p *Plan) Task(id int, job int, any int) api.Errno {
	t, j := thing{taskKind, id}, thing{jobKind, job}
	if e := p.room(t, api.MaxTasks); e != api.OK {
		return e
	}
	if !p.has(j) {
		return api.ErrUnknown
	}
	if !isCost(any) {
		return api.ErrRange
	}
	p.things[t] = facts{in: j, cost: any}
	return api.OK
}

// Prefer lets a task prefer a machine, or a rack (P4).
func (p *Plan) Prefer(task int, kind int, id int, cost int) api.Errno {
	w := wish{thing{taskKind, task}, thing{nodeKind(kind), id}}
	switch {
	case !p.has(w.task):
		return api.ErrUnknown
	case w.target.kind != machineKind && w.target.kind != rackKind:
		return api.ErrKind
	case !p.has(w.target):
		return api.ErrUnknown
	case !isCost(cost):
		return api.ErrRange
	}
	p.prefers[w] = cost
	return api.OK
}

// Remove takes something away (P5).
func (p *Plan) Remove(kind int, id int) api.Errno {
	t := thing{nodeKind(kind), id}
	switch {
	case t.kind < rackKind || t.kind > taskKind:
		return api.ErrKind
	case !p.has(t):
		return api.ErrUnknown
	case p.busy(t):
		return api.ErrBusy
	}
	p.forget(t)
	return api.OK
}

// Tick lets tasks wait (P6).
func (p *Plan) Tick() {
	for _, t := range p.all(taskKind) {
		if _, ok := p.runs[t]; !ok {
			p.waited[t] = min(p.waited[t]+1, api.MaxWait)
		}
	}
}

// Cost tells what a task costs on a machine, or on none (P7).
func (p *Plan) Cost(task int, machine int) (int, api.Errno) {
	t, m := thing{taskKind, task}, thing{machineKind, machine}
	switch {
	case !p.has(t):
		return 0, api.ErrUnknown
	case machine == -1:
		return p.costOnNone(t), api.OK
	case !p.has(m):
		return 0, api.ErrUnknown
	}
	return p.costOn(t, m), api.OK
}

// Where tells on which machine a task runs (P7).
func (p *Plan) Where(task int) (int, api.Errno) {
	t := thing{taskKind, task}
	if !p.has(t) {
		return 0, api.ErrUnknown
	}
	if m, ok := p.runs[t]; ok {
		return m.id, api.OK
	}
	return -1, api.OK
}

// Solve places all tasks at the least cost (P8).
func (p *Plan) Solve() int {
	c := p.chart()
	flow, prices := network.Least(c.net, c.flow)
	p.last = showing{c.net, flow, prices}
	c.flow = slices.Clone(flow) // it is used up by placing, and shown later
	sum := 0
	for _, t := range p.all(taskKind) {
		sum += p.settle(t, c.place(t))
	}
	return sum
}

// Show tells the network that was solved last, its flow, and prices (P11). They are copies, so that nobody can write into what is shown next time.
func (p *Plan) Show() (api.Net, []int, []int) {
	s := p.last
	s.net.Supply, s.net.Arcs = slices.Clone(s.net.Supply), slices.Clone(s.net.Arcs)
	return s.net, slices.Clone(s.flow), slices.Clone(s.prices)
}

// Check tells whether a flow and prices show that none is cheaper (P9).
func Check(n api.Net, flow []int, prices []int) api.Errno { return network.Check(n, flow, prices) }
